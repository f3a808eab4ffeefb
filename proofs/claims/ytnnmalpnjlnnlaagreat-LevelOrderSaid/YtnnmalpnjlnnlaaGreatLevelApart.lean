/-
  Package level over memory: do no two neighbours meet?
-/
import Derived.Test.YtnnmalpnjlnnlaaGreatLevelCopy
import Derived.Test.YtnnmalpnjlnnlaaGreatLevelSpec
namespace Go.Proofs.YtnnmalpnjlnnlaaGreat
open Go.ChangeShapes Go.WideShapes Go.ChangeAt Go.RowKit
set_option linter.unusedVariables false
set_option maxRecDepth 100000
set_option maxHeartbeats 8000000
open Lv
/-- no two neighbours of a list meet -/
def adjL (l : List Meta) : Prop := ∀ (i : Nat) (a b : Meta), l[i]? = some a → l[i + 1]? = some b → mm a b = false
/-- what apart tells -/
def ApRet (T : Nat → Lvl) (w : World) (e : Ending) (w' : World) : Prop := ∃ B, e = .returned (.bool B) ∧ (B = true ↔ ∀ l, 1 ≤ l → l < 4 → adjL (T l).l) ∧ Kept w w'
theorem lvapart_any {T : Nat → Lvl} {w : World} (h : Tin w T) (hl : ∀ l, l < 4 → (T l).l.length ≤ 100000) :
    Calls Tryz.prog 45 #[tbv T] w (ApRet T w) := by
  have HT := Lib.hid h
  have HL := Lib.hid hl
  clear h hl
  obtain ⟨f0, hf0⟩ : ∃ f0 : Nat → Value, f0 = fun k => (T k).v := ⟨_, rfl⟩
  have HF := Lib.hid hf0
  unfold tbv
  rw [show (T 0).v = f0 0 by rw [hf0], show (T 1).v = f0 1 by rw [hf0], show (T 2).v = f0 2 by rw [hf0], show (T 3).v = f0 3 by rw [hf0]]
  clear hf0
  go_enter Tryz.func45, Tryz.ntmps45
  go_wp2_with fail
  go_loopw [8] (fun x wr => ∃ k : Nat, k ≤ 3 ∧ x = .int .i64 k ∧ Hid (∀ l, 1 ≤ l → l < k + 1 → adjL (T l).l) ∧ Hid (wr.heap[w.heap.size]? = some (.cells #[f0 0, f0 1, f0 2, f0 3] 71 (0, 0))) ∧ Hid (Kept w wr)) (fun x _ => 3 - (intOf x).toNat)
  case atStart => exact ⟨0, by omega, rfl, Lib.hid (fun l h1 h2 => by omega), malloc_new w _, (Kept.refl _).alloc _⟩
  case round =>
    obtain ⟨k, hk, rfl, HZ, HB, HK⟩ := hrel
    by_cases hk4 : k < 3
    · have kb := mcell HB.out (1 + k) (by rw [Nat.add_comm]; exact four_get f0 (k + 1) (by omega))
      have hfk : f0 (k + 1) = .slice (T (k + 1)).A (T (k + 1)).l.length (T (k + 1)).c := by rw [HF.out]; rfl
      rw [hfk] at kb
      have HM := Lib.hid (HT.out.mts (k + 1) (by omega))
      have hlen := HL.out (k + 1) (by omega)
      have HNO := Lib.hid (fun (hh : ¬ adjL (T (k + 1)).l) => show ¬ ∀ l, 1 ≤ l → l < 4 → adjL (T l).l from fun hc => hh (hc (k + 1) (by omega) (by omega)))
      have HZK := Lib.hid (fun (hh : adjL (T (k + 1)).l) => show ∀ l, 1 ≤ l → l < k + 1 + 1 → adjL (T l).l from fun l h1 hl2 => by
        by_cases e : l = k + 1
        · rw [e]; exact hh
        · exact HZ.out l h1 (by omega))
      clear hfk
      generalize (T (k + 1)).A = A at *
      generalize (T (k + 1)).c = c at *
      generalize (T (k + 1)).l = l at *
      go_wp2_with fail
      go_loopw [5] (fun x wr => ∃ i : Nat, 1 ≤ i ∧ i ≤ l.length + 1 ∧ x = .int .i64 i ∧ Hid (∀ (j : Nat) (a b : Meta), j + 1 < i → l[j]? = some a → l[j + 1]? = some b → mm a b = false) ∧ Hid (wr.heap[w.heap.size]? = some (.cells #[f0 0, f0 1, f0 2, f0 3] 71 (0, 0))) ∧ Hid (Kept w wr)) (fun x _ => l.length + 1 - (intOf x).toNat)
      case atStart => exact ⟨1, by omega, by omega, by go_num, Lib.hid (fun j a b h1 => by omega), HB, HK⟩
      case round =>
        clear HB HK kb
        obtain ⟨i, hi1, hi2, rfl, HJ, HB, HK⟩ := hrel
        by_cases hlt : i < l.length
        · obtain ⟨m, him⟩ : ∃ m, i = m + 1 := ⟨i - 1, by omega⟩
          have hw1 : (i : Int) - 1 = (m : Int) := by omega
          have hmlt : m < l.length := by omega
          have HI := Lib.hid him
          obtain ⟨x, hx⟩ : ∃ y, l[m]? = some y := ⟨_, List.getElem?_eq_getElem (by omega)⟩
          obtain ⟨y, hy⟩ : ∃ y, l[i]? = some y := ⟨_, List.getElem?_eq_getElem hlt⟩
          obtain ⟨b, o, rfl, hb, c0, c1, c2, c3, c4⟩ := (Mts.kept HM.out HK.out) m x hx
          obtain ⟨b', o', e', hb', d0, d1, d2, d3, d4⟩ := (Mts.kept HM.out HK.out) i y hy
          cases e'
          have hw3 : IntKind.i64.wrap (m : Int) = (m : Int) := by simp [IntKind.wrap, IntKind.bits, IntKind.signed]; omega
          have p0 := grown_cell hb c0
          have p1 := grown_cell hb c1
          have p2 := grown_cell hb c2
          have p3 := grown_cell hb c3
          have p4 := grown_cell hb c4
          have q0 := grown_cell hb' d0
          have q1 := grown_cell hb' d1
          have q2 := grown_cell hb' d2
          have q3 := grown_cell hb' d3
          have q4 := grown_cell hb' d4
          have HNJ := Lib.hid (fun (hm : mm x y = true) => show ¬ ∀ l, 1 ≤ l → l < 4 → adjL (T l).l from HNO.out (fun hc => by have := hc m x y hx (by rw [← HI.out]; exact hy); rw [hm] at this; cases this))
          have HJ2 := Lib.hid (fun (hm : mm x y = false) => show ∀ (j : Nat) (a b : Meta), j + 1 < i + 1 → l[j]? = some a → l[j + 1]? = some b → mm a b = false from fun j a b h1 h2 h3 => by
            by_cases e : j = m
            · subst e; rw [hx] at h2; rw [← HI.out, hy] at h3; cases h2; cases h3; exact hm
            · exact HJ.out j a b (by have := HI.out; omega) h2 h3)
          have HSX := Lib.hid (fun W => lvspan_g x W)
          have HSY := Lib.hid (fun W => lvspan_g y W)
          have HME := Lib.hid (fun W => lvmeets_g x.first x.last y.first y.last W)
          unfold mtv spv at HSX HSY
          unfold spv at HME
          have HMM := Lib.hid (show meets x.first x.last y.first y.last = mm x y from rfl)
          rw [HMM.out] at HME
          generalize hB : mm x y = B at HME HNJ HJ2
          clear hB HMM him c0 c1 c2 c3 c4 d0 d1 d2 d3 d4 hx hy
          have mixed : Tryz.prog.follows .mixedOrders = true := by kernel_rfl
          go_wp2_with fail
          go_quiet_grown (first
            | (go_at_call_has 53 (Value.agg #[.int .u64 (x.file : Nat), .int .i64 x.size, .string (bs x.first), .string (bs x.last), .int .u64 (x.seq : Nat)]); refine Calls.grown_of (HSX.out _))
            | (go_at_call_has 53 (Value.agg #[.int .u64 (y.file : Nat), .int .i64 y.size, .string (bs y.first), .string (bs y.last), .int .u64 (y.seq : Nat)]); refine Calls.grown_of (HSY.out _))
            | (go_at_call 86; refine Calls.grown_of (HME.out _)))
          have g2 : Kept wr (Go.Sort.grow (wr.drewN nq) osq) := kept_grown ⟨nq, osq, rfl⟩
          have HB2 := Lib.hid (hp_kept HB.out g2)
          have HK2 := Lib.hid (kept_trans HK.out g2)
          show Exit.then _ _ _ _ (Go.Sort.grow (wr.drewN nq) osq)
          clear p0 p1 p2 p3 p4 q0 q1 q2 q3 q4 g2 HSX HSY HME
          generalize Go.Sort.grow (wr.drewN nq) osq = w2 at *
          cases B
          · have HJ3 := Lib.hid (HJ2.out rfl)
            go_wp2_with fail
            go_roundw
            case rel =>
              exact ⟨i + 1, by omega, by omega, by go_num, HJ3⟩
            case measure => simp [intOf]; omega
          · have HF := Lib.hid (HNJ.out rfl)
            go_wp2_with fail
            go_ret
            exact ⟨false, rfl, ⟨fun hc => (by cases hc), fun hc => absurd hc HF.out⟩, HK2.out⟩
        · have HJ3 := Lib.hid (show adjL l from fun j a b h1 h2 => HJ.out j a b (by have := (List.getElem?_eq_some_iff.1 h2).1; omega) h1 h2)
          have HZ2 := Lib.hid (HZK.out HJ3.out)
          have d1 : decide ((i : Int) < (l.length : Int)) = false := decide_eq_false (by omega)
          go_wp2_with fail
          go_roundw
          case rel => exact ⟨k + 1, by omega, by go_num, HZ2, HB, HK⟩
          case measure => simp [intOf]; omega
    · obtain rfl : k = 3 := by omega
      go_wp2_with fail
      go_ret
      exact ⟨true, rfl, by simpa using fun l h1 h2 => HZ.out l h1 (by omega), HK.out⟩
end Go.Proofs.YtnnmalpnjlnnlaaGreat
