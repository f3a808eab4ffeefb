/-
  Package level over memory: is each table so?
-/
import Derived.Test.YtnnmalpnjlnnlaaGreatLevelCopy
import Derived.Test.YtnnmalpnjlnnlaaGreatLevelSpec
import Derived.Test.YtnnmalpnjlnnlaaGreatLevelTab
import Derived.Test.YtnnmalpnjlnnlaaGreatLevelAsk
namespace Go.Proofs.YtnnmalpnjlnnlaaGreat
open Go.ChangeShapes Go.WideShapes Go.ChangeAt Go.RowKit
set_option linter.unusedVariables false
set_option maxRecDepth 100000
set_option maxHeartbeats 6000000
open Lv
def gvP (nx sq : Nat) (m : Meta) : Bool := decide (m.file < nx) && decide (m.seq ≤ sq)
theorem lvall_may {T : Nat → Lvl} {w : World} (h : Tin w T) (hl : ∀ l, l < 4 → (T l).l.length ≤ 100000) :
    Calls Tryz.prog 37 #[tbv T, .func (.func 28) #[] #[]] w fun e w' => e = .returned (.bool (all4 may (fun l => (T l).l))) ∧ Kept w w' := by
  have HCALL := Lib.hid (fun W (_ : Kept w W) x (hx : Sane x) => lvmay_any x hx W)
  have HN := Lib.hid (fun hh => (all4_iff (p := may) (t := fun l => (T l).l)).2 hh)
  have HY := Lib.hid (fun k (hk : k < 4) m (hm : m ∈ (T k).l) (hp : may m = false) => show all4 may (fun l => (T l).l) = false by
    rw [Bool.eq_false_iff]
    intro hc
    rw [all4_iff] at hc
    have := hc k hk m hm
    rw [hp] at this; cases this)
  have HT := Lib.hid h
  generalize all4 may (fun l => (T l).l) = B at HN HY ⊢
  have HSN := Lib.hid h.sane
  clear h
  obtain ⟨P, hP⟩ : ∃ P : Meta → Bool, P = may := ⟨_, rfl⟩
  rw [← hP] at HN HY HCALL
  clear hP
  unfold tbv
  go_enter Tryz.func37, Tryz.ntmps37
  go_wp2_with fail
  go_loopw [10] (fun x wr => ∃ k : Nat, k ≤ 4 ∧ x = .int .i64 k ∧ Hid (∀ l, l < k → ∀ m ∈ (T l).l, P m = true) ∧ Hid (Kept w wr)) (fun x _ => 4 - (intOf x).toNat)
  case atStart => exact ⟨0, by omega, rfl, Lib.hid (fun l hl => by omega), (Kept.refl _).alloc _⟩
  case round =>
    obtain ⟨k, hk, rfl, HZ, HK⟩ := hrel
    by_cases hk4 : k < 4
    · have hidx := idx_tab T k hk4
      have d4 : decide ((k : Int) < 4) = true := decide_eq_true (by omega)
      have HM := Lib.hid (HT.out.mts k hk4)
      have hlen := hl k hk4
      have HYK := Lib.hid (HY.out k hk4)
      have HSK := Lib.hid (HSN.out k hk4)
      have HZK := Lib.hid (fun (hh : ∀ m ∈ (T k).l, P m = true) => show ∀ l, l < k + 1 → ∀ m ∈ (T l).l, P m = true from fun l hl2 => by
        by_cases e : l = k
        · rw [e]; exact hh
        · exact HZ.out l (by omega))
      have hv : (T k).v = .slice (T k).A (T k).l.length (T k).c := rfl
      rw [hv] at hidx
      clear hv
      generalize (T k).A = A at *
      generalize (T k).c = c at *
      generalize (T k).l = l at *
      generalize (T 0).v = t0 at *
      generalize (T 1).v = t1 at *
      generalize (T 2).v = t2 at *
      generalize (T 3).v = t3 at *
      go_wp2_with fail
      go_loopw [15] (fun x wr => ∃ j : Nat, j ≤ l.length ∧ x = .int .i64 j ∧ Hid (∀ m ∈ l.take j, P m = true) ∧ Hid (Kept w wr)) (fun x _ => l.length - (intOf x).toNat)
      case atStart => exact ⟨0, Nat.zero_le _, rfl, Lib.hid (by simp), HK⟩
      case round =>
        clear HK
        obtain ⟨j, hj, rfl, HJ, HK⟩ := hrel
        by_cases hlt : j < l.length
        · obtain ⟨y, hy⟩ : ∃ y, l[j]? = some y := ⟨_, List.getElem?_eq_getElem hlt⟩
          obtain ⟨b, o, rfl, hb, c0, c1, c2, c3, c4⟩ := (Mts.kept HM.out HK.out) j y hy
          have hmem := List.mem_of_getElem? hy
          have HYM := Lib.hid (HYK.out y hmem)
          have HJ2 := Lib.hid (fun (hp : P y = true) => show ∀ m ∈ l.take (j + 1), P m = true from fun m hm => by
            rw [List.take_add_one, hy] at hm
            rcases List.mem_append.1 hm with hm | hm
            · exact HJ.out m hm
            · simp at hm; subst hm; exact hp)
          have HC := Lib.hid (fun W (hW : Kept w W) => HCALL.out W hW y (HSK.out y hmem))
          clear hy hmem
          unfold mtv at HC
          go_wp2_with fail
          refine (HC.out _ (HK.out.alloc _)).mono ?_
          rintro e w1 ⟨rfl, g1⟩
          have HG := Lib.hid (kept_trans (HK.out.alloc _) g1)
          generalize hq : P y = q at *
          have HQ := Lib.hid hq
          clear hq g1 c0 c1 c2 c3 c4
          cases q
          · have HF := Lib.hid (HYM.out rfl)
            go_wp2_with fail
            go_ret
            exact ⟨by rw [HF.out]; rfl, HG.out⟩
          · have HJ3 := Lib.hid (HJ2.out rfl)
            go_wp2_with fail
            go_roundw
            case rel => exact ⟨j + 1, by omega, by go_num, HJ3, HG⟩
            case measure => simp [intOf]; omega
        · obtain rfl : j = l.length := by omega
          rw [List.take_length] at HJ
          have HZ2 := Lib.hid (HZK.out HJ.out)
          go_wp2_with fail
          go_roundw
          case rel => exact ⟨k + 1, by omega, by go_num, HZ2, HK⟩
          case measure => simp [intOf]; omega
    · obtain rfl : k = 4 := by omega
      have HF := Lib.hid (HN.out HZ.out)
      go_wp2_with fail
      go_ret
      exact ⟨by rw [HF.out]; rfl, HK.out⟩
theorem lvall_gave {T : Nat → Lvl} {w : World} {p nx lg sq : Nat} {T0 : Nat → Lvl} (hv : IsV w p T0 nx lg sq) (h : Tin w T) (hl : ∀ l, l < 4 → (T l).l.length ≤ 100000) :
    Calls Tryz.prog 37 #[tbv T, .func (.func 42) #[.pointer (some ⟨p, 0, none⟩)] #[]] w fun e w' => e = .returned (.bool (all4 (gvP nx sq) (fun l => (T l).l))) ∧ Kept w w' := by
  have HCALL := Lib.hid (fun W (hW : Kept w W) x (hx : Sane x) => (show Calls Tryz.prog 42 #[.pointer (some ⟨p, 0, none⟩), mtv x] W fun e w' => e = .returned (.bool (gvP nx sq x)) ∧ Kept W w' from lvgave_any (hv.kept hW) x))
  have HN := Lib.hid (fun hh => (all4_iff (p := (gvP nx sq)) (t := fun l => (T l).l)).2 hh)
  have HY := Lib.hid (fun k (hk : k < 4) m (hm : m ∈ (T k).l) (hp : (gvP nx sq) m = false) => show all4 (gvP nx sq) (fun l => (T l).l) = false by
    rw [Bool.eq_false_iff]
    intro hc
    rw [all4_iff] at hc
    have := hc k hk m hm
    rw [hp] at this; cases this)
  have HT := Lib.hid h
  generalize all4 (gvP nx sq) (fun l => (T l).l) = B at HN HY ⊢
  have HSN := Lib.hid h.sane
  clear h
  obtain ⟨P, hP⟩ : ∃ P : Meta → Bool, P = (gvP nx sq) := ⟨_, rfl⟩
  rw [← hP] at HN HY HCALL
  clear hP
  unfold tbv
  go_enter Tryz.func37, Tryz.ntmps37
  go_wp2_with fail
  go_loopw [10] (fun x wr => ∃ k : Nat, k ≤ 4 ∧ x = .int .i64 k ∧ Hid (∀ l, l < k → ∀ m ∈ (T l).l, P m = true) ∧ Hid (Kept w wr)) (fun x _ => 4 - (intOf x).toNat)
  case atStart => exact ⟨0, by omega, rfl, Lib.hid (fun l hl => by omega), (Kept.refl _).alloc _⟩
  case round =>
    obtain ⟨k, hk, rfl, HZ, HK⟩ := hrel
    by_cases hk4 : k < 4
    · have hidx := idx_tab T k hk4
      have d4 : decide ((k : Int) < 4) = true := decide_eq_true (by omega)
      have HM := Lib.hid (HT.out.mts k hk4)
      have hlen := hl k hk4
      have HYK := Lib.hid (HY.out k hk4)
      have HSK := Lib.hid (HSN.out k hk4)
      have HZK := Lib.hid (fun (hh : ∀ m ∈ (T k).l, P m = true) => show ∀ l, l < k + 1 → ∀ m ∈ (T l).l, P m = true from fun l hl2 => by
        by_cases e : l = k
        · rw [e]; exact hh
        · exact HZ.out l (by omega))
      have hv : (T k).v = .slice (T k).A (T k).l.length (T k).c := rfl
      rw [hv] at hidx
      clear hv
      generalize (T k).A = A at *
      generalize (T k).c = c at *
      generalize (T k).l = l at *
      generalize (T 0).v = t0 at *
      generalize (T 1).v = t1 at *
      generalize (T 2).v = t2 at *
      generalize (T 3).v = t3 at *
      go_wp2_with fail
      go_loopw [15] (fun x wr => ∃ j : Nat, j ≤ l.length ∧ x = .int .i64 j ∧ Hid (∀ m ∈ l.take j, P m = true) ∧ Hid (Kept w wr)) (fun x _ => l.length - (intOf x).toNat)
      case atStart => exact ⟨0, Nat.zero_le _, rfl, Lib.hid (by simp), HK⟩
      case round =>
        clear HK
        obtain ⟨j, hj, rfl, HJ, HK⟩ := hrel
        by_cases hlt : j < l.length
        · obtain ⟨y, hy⟩ : ∃ y, l[j]? = some y := ⟨_, List.getElem?_eq_getElem hlt⟩
          obtain ⟨b, o, rfl, hb, c0, c1, c2, c3, c4⟩ := (Mts.kept HM.out HK.out) j y hy
          have hmem := List.mem_of_getElem? hy
          have HYM := Lib.hid (HYK.out y hmem)
          have HJ2 := Lib.hid (fun (hp : P y = true) => show ∀ m ∈ l.take (j + 1), P m = true from fun m hm => by
            rw [List.take_add_one, hy] at hm
            rcases List.mem_append.1 hm with hm | hm
            · exact HJ.out m hm
            · simp at hm; subst hm; exact hp)
          have HC := Lib.hid (fun W (hW : Kept w W) => HCALL.out W hW y (HSK.out y hmem))
          clear hy hmem
          unfold mtv at HC
          go_wp2_with fail
          refine (HC.out _ (HK.out.alloc _)).mono ?_
          rintro e w1 ⟨rfl, g1⟩
          have HG := Lib.hid (kept_trans (HK.out.alloc _) g1)
          generalize hq : P y = q at *
          have HQ := Lib.hid hq
          clear hq g1 c0 c1 c2 c3 c4
          cases q
          · have HF := Lib.hid (HYM.out rfl)
            go_wp2_with fail
            go_ret
            exact ⟨by rw [HF.out]; rfl, HG.out⟩
          · have HJ3 := Lib.hid (HJ2.out rfl)
            go_wp2_with fail
            go_roundw
            case rel => exact ⟨j + 1, by omega, by go_num, HJ3, HG⟩
            case measure => simp [intOf]; omega
        · obtain rfl : j = l.length := by omega
          rw [List.take_length] at HJ
          have HZ2 := Lib.hid (HZK.out HJ.out)
          go_wp2_with fail
          go_roundw
          case rel => exact ⟨k + 1, by omega, by go_num, HZ2, HK⟩
          case measure => simp [intOf]; omega
    · obtain rfl : k = 4 := by omega
      have HF := Lib.hid (HN.out HZ.out)
      go_wp2_with fail
      go_ret
      exact ⟨by rw [HF.out]; rfl, HK.out⟩
end Go.Proofs.YtnnmalpnjlnnlaaGreat
