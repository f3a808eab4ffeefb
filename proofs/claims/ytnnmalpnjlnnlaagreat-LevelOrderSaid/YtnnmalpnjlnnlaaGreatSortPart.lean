/-
  A slice of numbers of 64 bits as the library's sort finds it: the two partings.
-/
import Derived.Test.YtnnmalpnjlnnlaaGreatSortU
import Derived.Sort.LotA
import Derived.Lib.Hide
namespace Go.Proofs.YtnnmalpnjlnnlaaGreat
open Go.ChangeShapes Go.WideShapes Go.ChangeAt Go.RowKit
open Go.Sort
open Su
set_option linter.unusedVariables false
set_option maxRecDepth 100000
set_option maxHeartbeats 12000000
variable {w0 w : World} {blk off n : Nat} {d : Array Int}
namespace Su
/-- what has been parted round p: below it up to i, not below it from behind j on -/
structure Pt (a b : Nat) (p : Int) (i j : Nat) (dk : Array Int) : Prop where
  at_ : dk[a]! = p
  lo : ∀ t, a < t → t < i → ltInt dk[t]! p = true
  hi : ∀ t, j < t → t < b → ltInt dk[t]! p = false
structure Qt (a b : Nat) (p : Int) (i j : Nat) (dk : Array Int) : Prop where
  at_ : dk[a]! = p
  lo : ∀ t, a < t → t < i → ltInt p dk[t]! = false
  hi : ∀ t, j < t → t < b → ltInt p dk[t]! = true
variable {a b i j : Nat} {p : Int} {dk : Array Int}
theorem Pt.up (h : Pt a b p i j dk) {q : Int} (ht : ltInt dk[i]! q = true) (hq : q = p) : Pt a b p (i + 1) j dk := by
  subst hq
  refine ⟨h.at_, fun t h1 h2 => ?_, h.hi⟩
  rcases Nat.lt_or_ge t i with h3 | h3
  · exact h.lo t h1 h3
  · obtain rfl : t = i := by omega
    exact ht
theorem Pt.down (h : Pt a b p i j dk) {q : Int} (hj : 0 < j) (ht : ltInt dk[j]! q = false) (hq : q = p) : Pt a b p i (j - 1) dk := by
  subst hq
  refine ⟨h.at_, h.lo, fun t h1 h2 => ?_⟩
  rcases Nat.lt_or_ge j t with h3 | h3
  · exact h.hi t h3 h2
  · obtain rfl : t = j := by omega
    exact ht
theorem Qt.up (h : Qt a b p i j dk) {q : Int} (ht : ltInt q dk[i]! = false) (hq : q = p) : Qt a b p (i + 1) j dk := by
  subst hq
  refine ⟨h.at_, fun t h1 h2 => ?_, h.hi⟩
  rcases Nat.lt_or_ge t i with h3 | h3
  · exact h.lo t h1 h3
  · obtain rfl : t = i := by omega
    exact ht
theorem Qt.down (h : Qt a b p i j dk) {q : Int} (hj : 0 < j) (ht : ltInt q dk[j]! = true) (hq : q = p) : Qt a b p i (j - 1) dk := by
  subst hq
  refine ⟨h.at_, h.lo, fun t h1 h2 => ?_⟩
  rcases Nat.lt_or_ge j t with h3 | h3
  · exact h.hi t h3 h2
  · obtain rfl : t = j := by omega
    exact ht
theorem Pt.swap (h : Pt a b p i j dk) (hs : j < dk.size) (hai : a < i) (hij : i < j) (h1 : ltInt dk[i]! p = false) (h2 : ltInt dk[j]! p = true) : Pt a b p (i + 1) (j - 1) (swp dk i j) := by
  have g := swp_get dk (show i < dk.size by omega) hs
  refine ⟨?_, fun t h3 h4 => ?_, fun t h3 h4 => ?_⟩
  · rw [g, if_neg (by omega), if_neg (by omega)]; exact h.at_
  · rw [g, if_neg (by omega)]
    by_cases e : t = i
    · rw [if_pos e]; exact h2
    · rw [if_neg e]; exact h.lo t h3 (by omega)
  · rw [g]
    by_cases e : t = j
    · rw [if_pos e]; exact h1
    · rw [if_neg e, if_neg (by omega)]; exact h.hi t (by omega) h4
theorem Qt.swap (h : Qt a b p i j dk) (hs : j < dk.size) (hai : a < i) (hij : i < j) (h1 : ltInt p dk[i]! = true) (h2 : ltInt p dk[j]! = false) : Qt a b p (i + 1) (j - 1) (swp dk i j) := by
  have g := swp_get dk (show i < dk.size by omega) hs
  refine ⟨?_, fun t h3 h4 => ?_, fun t h3 h4 => ?_⟩
  · rw [g, if_neg (by omega), if_neg (by omega)]; exact h.at_
  · rw [g, if_neg (by omega)]
    by_cases e : t = i
    · rw [if_pos e]; exact h2
    · rw [if_neg e]; exact h.lo t h3 (by omega)
  · rw [g]
    by_cases e : t = j
    · rw [if_pos e]; exact h1
    · rw [if_neg e, if_neg (by omega)]; exact h.hi t (by omega) h4
theorem first_at {d : Array Int} {a pivot : Nat} (ha : a < d.size) (hp : pivot < d.size) : (swp d a pivot)[a]! = d[pivot]! := by
  rw [swp_get d ha hp]
  by_cases e : a = pivot
  · subst e; rw [if_pos rfl]
  · rw [if_neg e, if_pos rfl]
/-- what a parting leaves -/
structure Parted (a b mid : Nat) (d' : Array Int) : Prop where
  lo : ∀ t, a ≤ t → t < mid → ltInt d'[t]! d'[mid]! = true
  hi : ∀ t, mid < t → t < b → ltInt d'[t]! d'[mid]! = false
theorem Pt.done (h : Pt a b p (j + 1) j dk) (hs : j < dk.size) (haj : a ≤ j) : Parted a b j (swp dk j a) := by
  have g := swp_get dk hs (show a < dk.size by omega)
  have e0 : (swp dk j a)[j]! = p := by
    rw [g]
    by_cases e : j = a
    · subst e; rw [if_pos rfl]; exact h.at_
    · rw [if_neg e, if_pos rfl]; exact h.at_
  refine ⟨fun t h1 h2 => ?_, fun t h1 h2 => ?_⟩
  · rw [e0, g]
    by_cases e : t = a
    · rw [if_pos e]; exact h.lo j (by omega) (by omega)
    · rw [if_neg e, if_neg (by omega)]; exact h.lo t (by omega) (by omega)
  · rw [e0, g, if_neg (by omega), if_neg (by omega)]; exact h.hi t (by omega) h2
end Su
theorem spareq_any (B : Base w0 blk off n) (S : Sw w0 blk off n d w) (cap a b pivot : Nat) (hap : a ≤ pivot) (hpb : pivot < b) (hb : b ≤ n) :
    Calls Tryz.prog 118 #[.slice (some ⟨blk, off, none⟩) n cap, .int .i64 a, .int .i64 b, .int .i64 pivot] w fun e w' =>
      ∃ (mid : Nat) (d' : Array Int), e = .returned (.int .i64 (mid : Nat)) ∧ a < mid ∧ mid ≤ b ∧ PermIn a b d d' ∧ (∀ t, a ≤ t → t < mid → ltInt d[pivot]! d'[t]! = false) ∧ (∀ t, mid ≤ t → t < b → ltInt d[pivot]! d'[t]! = true) ∧ Sw w0 blk off n d' w' := by
  have hfew := B.few
  have hla : a < n := by omega
  have hlp : pivot < n := by omega
  have hsz := S.size
  obtain ⟨P, hP⟩ : ∃ P : Int, P = d[pivot]! := ⟨_, rfl⟩
  obtain ⟨G0, hG0⟩ := gname d
  have ca : w.cell? ⟨blk, off + a, none⟩ = some (.int .u64 (G0 a)) := by rw [hG0]; exact S.cells B a hla
  have fa := S.soft B a hla
  have cp : w.cell? ⟨blk, off + pivot, none⟩ = some (.int .u64 (G0 pivot)) := by rw [hG0]; exact S.cells B pivot hlp
  have fp := S.soft B pivot hlp
  obtain ⟨v', hy'⟩ := S.two B hla hlp (.int .u64 (G0 pivot))
  have HS0 : Hid (Sw w0 blk off n (swp d a pivot) ((w.setCell ⟨blk, off + a, none⟩ (.int .u64 (G0 pivot))).setCell ⟨blk, off + pivot, none⟩ (.int .u64 (G0 a))).drew) := (S.swap B hla hlp (hG0 _) (hG0 _)).drew
  have HP0 : Hid (PermIn a b d (swp d a pivot)) := swp_permIn d a b a pivot (Nat.le_refl _) (by omega) hap hpb (by omega)
  have HQ0 : Hid (Qt a b P (a + 1) (b - 1) (swp d a pivot)) := ⟨by rw [hP]; exact first_at (by omega) (by omega), fun t h1 h2 => by omega, fun t h1 h2 => by omega⟩
  have HPE := Lib.hid hP
  clear hG0 hP hsz S
  go_enter Tryz.func118, Tryz.ntmps118
  go_wp2
  go_region
  go_wp2
  clear ca fa cp fp hy'
  generalize ((w.setCell ⟨blk, off + a, none⟩ (.int .u64 (G0 pivot))).setCell ⟨blk, off + pivot, none⟩ (.int .u64 (G0 a))).drew = w1 at HS0 ⊢
  go_loopw [9, 10] (fun vi vj wr => ∃ (i j : Nat) (dk : Array Int), vi = .int .i64 i ∧ vj = .int .i64 j ∧ a < i ∧ i ≤ j + 1 ∧ j < b ∧ Hid (Sw w0 blk off n dk wr) ∧ Hid (PermIn a b d dk) ∧ Hid (Qt a b P i j dk)) (fun vi vj _ => (intOf vj).toNat + 1 - (intOf vi).toNat)
  case atStart => exact ⟨a + 1, b - 1, swp d a pivot, by go_num, by go_num, by omega, by omega, by omega, HS0, HP0, HQ0⟩
  case round =>
    obtain ⟨i, j, dk, rfl, rfl, hai, hij, hjb, HS, HP, HQ⟩ := hrel
    obtain ⟨G, hG⟩ := gname dk
    have HG : Hid (∀ t, G t = dk[t]!) := hG
    have HA : Hid (G a = P) := (hG a).trans HQ.out.at_
    clear hG
    go_wp2
    go_loopw [9] (fun vi w1 => ∃ (i' : Nat), vi = .int .i64 i' ∧ i ≤ i' ∧ i' ≤ j + 1 ∧ Hid (Sw w0 blk off n dk w1) ∧ Hid (Qt a b P i' j dk)) (fun vi _ => j + 1 - (intOf vi).toNat)
    case atStart => exact ⟨i, rfl, Nat.le_refl _, hij, HS, HQ⟩
    case round =>
      clear HS HQ
      obtain ⟨i', rfl, hii, hij', HS, HQ⟩ := hrel
      have hcw : ∀ t, t < n → wr.cell? ⟨blk, off + t, none⟩ = some (.int .u64 (G t)) := fun t ht => by rw [HG.out]; exact HS.out.cells B t ht
      have hfw := HS.out.soft B
      by_cases hle : i' ≤ j
      · go_wp2_with fail
        go_big_quiet (first | (go_at_call 94; refine Calls.quiet_of_same (sless_any _ _ _)))
        go_wp2
        · have ht : (!ltInt (G a) (G i')) = true := by assumption
          go_roundw
          case rel => exact ⟨i' + 1, by go_num, by omega, by omega, HS.out.drewN _, HQ.out.up (by rw [← HG.out]; simpa using ht) HA.out⟩
          case measure => simp [intOf]; omega
        · have ht : (!ltInt (G a) (G i')) = false := by assumption
          have hup : i' ≤ j → ltInt (G a) (G i') = true := fun _ => by simpa using ht
          clear ht
          go_loopw [10] (fun vj w2 => ∃ (j' : Nat), vj = .int .i64 j' ∧ j' ≤ j ∧ i' ≤ j' + 1 ∧ Hid (Sw w0 blk off n dk w2) ∧ Hid (Qt a b P i' j' dk)) (fun vj _ => (intOf vj).toNat)
          case atStart => exact ⟨j, rfl, Nat.le_refl _, hij', HS.out.drewN _, HQ⟩
          case round =>
            clear hcw hfw HS
            obtain ⟨j', rfl, hjj, hij2, HS, HQ⟩ := hrel
            have hcw : ∀ t, t < n → wr.cell? ⟨blk, off + t, none⟩ = some (.int .u64 (G t)) := fun t ht => by rw [HG.out]; exact HS.out.cells B t ht
            have hfw := HS.out.soft B
            by_cases hle2 : i' ≤ j'
            · go_wp2_with fail
              go_big_quiet (first | (go_at_call 94; refine Calls.quiet_of_same (sless_any _ _ _)))
              go_wp2
              · have ht : ltInt (G a) (G j') = true := by assumption
                go_roundw
                case rel => exact ⟨j' - 1, by go_num, by omega, by omega, HS.out.drewN _, HQ.out.down (by omega) (by rw [← HG.out]; simpa using ht) HA.out⟩
                case measure => simp [intOf]; omega
              · have ht : ltInt (G a) (G j') = false := by assumption
                have hdn : ltInt (G a) (G j') = false := by simpa using ht
                clear ht
                have HS3 : Hid (Sw w0 blk off n dk (wr.drewN nq)) := HS.out.drewN nq
                clear hcw hfw HS
                generalize wr.drewN nq = wr3 at HS3 ⊢
                have hcw : ∀ t, t < n → wr3.cell? ⟨blk, off + t, none⟩ = some (.int .u64 (G t)) := fun t ht => by rw [HG.out]; exact HS3.out.cells B t ht
                have hfw := HS3.out.soft B
                have hne : i' ≠ j' := fun e => by subst e; have hup' := hup (by omega); rw [hup'] at hdn; cases hdn
                have hlt3 : i' < j' := by omega
                have HUP := Lib.hid (hup (by omega))
                have HDN := Lib.hid hdn
                clear hup hdn hne
                go_wp2
                go_region
                all_goals go_wp2
                all_goals go_roundw
                case rel => exact ⟨i' + 1, j' - 1, swp dk i' j', by go_num, by go_num, by omega, by omega, by omega, (HS3.out.swap B (by omega) (by omega) (HG.out _) (HG.out _)).drew, permIn_trans _ _ _ _ _ HP.out (swp_permIn dk a b i' j' (by omega) (by omega) (by omega) (by omega) (by rw [HS3.out.size]; exact hb)), HQ.out.swap (by rw [HS3.out.size]; omega) (by omega) hlt3 (by rw [← HG.out, ← HA.out]; exact HUP.out) (by rw [← HG.out, ← HA.out]; exact HDN.out)⟩
                case measure => simp [intOf]; omega
            · go_wp2_with fail
              go_big_quiet (first | (go_at_call 94; refine Calls.quiet_of_same (sless_any _ _ _)))
              have HS3 : Hid (Sw w0 blk off n dk (wr.drewN nq)) := HS.out.drewN nq
              clear hcw hfw HS
              generalize wr.drewN nq = wr3 at HS3 ⊢
              have hcw : ∀ t, t < n → wr3.cell? ⟨blk, off + t, none⟩ = some (.int .u64 (G t)) := fun t ht => by rw [HG.out]; exact HS3.out.cells B t ht
              have hfw := HS3.out.soft B
              have hij3 : i' = j' + 1 := by omega
              go_wp2
              go_ret
              subst hij3
              refine ⟨j' + 1, dk, rfl, by omega, by omega, HP.out, fun t h1 h2 => ?_, fun t h1 h2 => ?_, HS3.out⟩
              · rw [← HPE.out]
                by_cases e : t = a
                · rw [e, HQ.out.at_]; simp [ltInt]
                · exact HQ.out.lo t (by omega) h2
              · rw [← HPE.out]
                exact HQ.out.hi t (by omega) h2
      · go_wp2_with fail
        go_big_quiet (first | (go_at_call 94; refine Calls.quiet_of_same (sless_any _ _ _)))
        go_wp2
        have hup : i' ≤ j → ltInt (G a) (G i') = true := fun h => absurd h hle
        go_loopw [10] (fun vj w2 => ∃ (j' : Nat), vj = .int .i64 j' ∧ j' ≤ j ∧ i' ≤ j' + 1 ∧ Hid (Sw w0 blk off n dk w2) ∧ Hid (Qt a b P i' j' dk)) (fun vj _ => (intOf vj).toNat)
        case atStart => exact ⟨j, rfl, Nat.le_refl _, hij', HS.out.drewN _, HQ⟩
        case round =>
          clear hcw hfw HS
          obtain ⟨j', rfl, hjj, hij2, HS, HQ⟩ := hrel
          have hcw : ∀ t, t < n → wr.cell? ⟨blk, off + t, none⟩ = some (.int .u64 (G t)) := fun t ht => by rw [HG.out]; exact HS.out.cells B t ht
          have hfw := HS.out.soft B
          by_cases hle2 : i' ≤ j'
          · exfalso; omega
          · go_wp2_with fail
            go_big_quiet (first | (go_at_call 94; refine Calls.quiet_of_same (sless_any _ _ _)))
            have HS3 : Hid (Sw w0 blk off n dk (wr.drewN nq)) := HS.out.drewN nq
            clear hcw hfw HS
            generalize wr.drewN nq = wr3 at HS3 ⊢
            have hcw : ∀ t, t < n → wr3.cell? ⟨blk, off + t, none⟩ = some (.int .u64 (G t)) := fun t ht => by rw [HG.out]; exact HS3.out.cells B t ht
            have hfw := HS3.out.soft B
            have hij3 : i' = j' + 1 := by omega
            go_wp2
            go_ret
            subst hij3
            refine ⟨j' + 1, dk, rfl, by omega, by omega, HP.out, fun t h1 h2 => ?_, fun t h1 h2 => ?_, HS3.out⟩
            · rw [← HPE.out]
              by_cases e : t = a
              · rw [e, HQ.out.at_]; simp [ltInt]
              · exact HQ.out.lo t (by omega) h2
            · rw [← HPE.out]
              exact HQ.out.hi t (by omega) h2
theorem spart_any (B : Base w0 blk off n) (S : Sw w0 blk off n d w) (cap a b pivot : Nat) (hap : a ≤ pivot) (hpb : pivot < b) (hb : b ≤ n) :
    Calls Tryz.prog 119 #[.slice (some ⟨blk, off, none⟩) n cap, .int .i64 a, .int .i64 b, .int .i64 pivot] w fun e w' =>
      ∃ (mid : Nat) (ap : Bool) (d' : Array Int), e = .returned (.tuple #[.int .i64 (mid : Nat), .bool ap]) ∧ a ≤ mid ∧ mid < b ∧ PermIn a b d d' ∧ Parted a b mid d' ∧ Sw w0 blk off n d' w' := by
  have hfew := B.few
  have hla : a < n := by omega
  have hlp : pivot < n := by omega
  have hsz := S.size
  obtain ⟨P, hP⟩ : ∃ P : Int, P = d[pivot]! := ⟨_, rfl⟩
  obtain ⟨G0, hG0⟩ := gname d
  have ca : w.cell? ⟨blk, off + a, none⟩ = some (.int .u64 (G0 a)) := by rw [hG0]; exact S.cells B a hla
  have fa := S.soft B a hla
  have cp : w.cell? ⟨blk, off + pivot, none⟩ = some (.int .u64 (G0 pivot)) := by rw [hG0]; exact S.cells B pivot hlp
  have fp := S.soft B pivot hlp
  obtain ⟨v', hy'⟩ := S.two B hla hlp (.int .u64 (G0 pivot))
  have HS0 : Hid (Sw w0 blk off n (swp d a pivot) ((w.setCell ⟨blk, off + a, none⟩ (.int .u64 (G0 pivot))).setCell ⟨blk, off + pivot, none⟩ (.int .u64 (G0 a))).drew) := (S.swap B hla hlp (hG0 _) (hG0 _)).drew
  have HP0 : Hid (PermIn a b d (swp d a pivot)) := swp_permIn d a b a pivot (Nat.le_refl _) (by omega) hap hpb (by omega)
  have HQ0 : Hid (Pt a b P (a + 1) (b - 1) (swp d a pivot)) := ⟨by rw [hP]; exact first_at (by omega) (by omega), fun t h1 h2 => by omega, fun t h1 h2 => by omega⟩
  have HPE := Lib.hid hP
  clear hG0 hP hsz S
  go_enter Tryz.func119, Tryz.ntmps119
  go_wp2
  go_region
  go_wp2
  clear ca fa cp fp hy'
  generalize ((w.setCell ⟨blk, off + a, none⟩ (.int .u64 (G0 pivot))).setCell ⟨blk, off + pivot, none⟩ (.int .u64 (G0 a))).drew = w1 at HS0 ⊢
  obtain ⟨i, hi⟩ : ∃ i, i = a + 1 := ⟨_, rfl⟩
  obtain ⟨j, hj⟩ : ∃ j, j = b - 1 := ⟨_, rfl⟩
  have e1 : ((a : Int) + 1) = (i : Int) := by omega
  have e2 : ((b : Int) - 1) = (j : Int) := by omega
  rw [e1, e2]
  clear e1 e2
  have hai : a < i := by omega
  have hij : i ≤ j + 1 := by omega
  have hjb : j < b := by omega
  rw [← hi, ← hj] at HQ0
  clear hi hj
  obtain ⟨dk, hdk⟩ : ∃ dk, dk = swp d a pivot := ⟨_, rfl⟩
  rw [← hdk] at HS0 HP0 HQ0
  clear hdk
  have HS := HS0; have HP := HP0; have HQ := HQ0
  clear HS0 HP0 HQ0
  obtain ⟨G, hG⟩ := gname dk
  have HG : Hid (∀ t, G t = dk[t]!) := hG
  have HA : Hid (G a = P) := (hG a).trans HQ.out.at_
  clear hG
  go_loopw [10] (fun vi w1 => ∃ (i' : Nat), vi = .int .i64 i' ∧ i ≤ i' ∧ i' ≤ j + 1 ∧ Hid (Sw w0 blk off n dk w1) ∧ Hid (Pt a b P i' j dk)) (fun vi _ => j + 1 - (intOf vi).toNat)
  case atStart => exact ⟨i, rfl, Nat.le_refl _, hij, HS, HQ⟩
  case round =>
    clear HS HQ
    obtain ⟨i', rfl, hii, hij', HS, HQ⟩ := hrel
    have hcw : ∀ t, t < n → wr.cell? ⟨blk, off + t, none⟩ = some (.int .u64 (G t)) := fun t ht => by rw [HG.out]; exact HS.out.cells B t ht
    have hfw := HS.out.soft B
    by_cases hle : i' ≤ j
    · go_wp2_with fail
      go_big_quiet (first | (go_at_call 94; refine Calls.quiet_of_same (sless_any _ _ _)))
      go_wp2
      · have ht : ltInt (G i') (G a) = true := by assumption
        go_roundw
        case rel => exact ⟨i' + 1, by go_num, by omega, by omega, HS.out.drewN _, HQ.out.up (by rw [← HG.out]; simpa using ht) HA.out⟩
        case measure => simp [intOf]; omega
      · have ht : ltInt (G i') (G a) = false := by assumption
        have hup : i' ≤ j → ltInt (G i') (G a) = false := fun _ => by simpa using ht
        clear ht
        go_loopw [11] (fun vj w2 => ∃ (j' : Nat), vj = .int .i64 j' ∧ j' ≤ j ∧ i' ≤ j' + 1 ∧ Hid (Sw w0 blk off n dk w2) ∧ Hid (Pt a b P i' j' dk)) (fun vj _ => (intOf vj).toNat)
        case atStart => exact ⟨j, rfl, Nat.le_refl _, hij', HS.out.drewN _, HQ⟩
        case round =>
          clear hcw hfw HS
          obtain ⟨j', rfl, hjj, hij2, HS, HQ⟩ := hrel
          have hcw : ∀ t, t < n → wr.cell? ⟨blk, off + t, none⟩ = some (.int .u64 (G t)) := fun t ht => by rw [HG.out]; exact HS.out.cells B t ht
          have hfw := HS.out.soft B
          by_cases hle2 : i' ≤ j'
          · go_wp2_with fail
            go_big_quiet (first | (go_at_call 94; refine Calls.quiet_of_same (sless_any _ _ _)))
            go_wp2
            · have ht : (!ltInt (G j') (G a)) = true := by assumption
              go_roundw
              case rel => exact ⟨j' - 1, by go_num, by omega, by omega, HS.out.drewN _, HQ.out.down (by omega) (by rw [← HG.out]; simpa using ht) HA.out⟩
              case measure => simp [intOf]; omega
            · have ht : (!ltInt (G j') (G a)) = false := by assumption
              have hdn : ltInt (G j') (G a) = true := by simpa using ht
              clear ht
              have HS3 : Hid (Sw w0 blk off n dk (wr.drewN nq)) := HS.out.drewN nq
              clear hcw hfw HS
              generalize wr.drewN nq = wr3 at HS3 ⊢
              have hcw : ∀ t, t < n → wr3.cell? ⟨blk, off + t, none⟩ = some (.int .u64 (G t)) := fun t ht => by rw [HG.out]; exact HS3.out.cells B t ht
              have hfw := HS3.out.soft B
              have hne : i' ≠ j' := fun e => by subst e; have hup' := hup (by omega); rw [hup'] at hdn; cases hdn
              have hlt3 : i' < j' := by omega
              have HUP := Lib.hid (hup (by omega))
              have HDN := Lib.hid hdn
              clear hup hdn hne
              go_wp2
              go_region
              all_goals go_wp2
              go_loopw [10, 11] (fun vi vj wr => ∃ (i j : Nat) (dk : Array Int), vi = .int .i64 i ∧ vj = .int .i64 j ∧ a < i ∧ i ≤ j + 1 ∧ j < b ∧ Hid (Sw w0 blk off n dk wr) ∧ Hid (PermIn a b d dk) ∧ Hid (Pt a b P i j dk)) (fun vi vj _ => (intOf vj).toNat + 1 - (intOf vi).toNat)
              case atStart => exact ⟨i' + 1, j' - 1, swp dk i' j', by go_num, by go_num, by omega, by omega, by omega, (HS3.out.swap B (by omega) (by omega) (HG.out _) (HG.out _)).drew, permIn_trans _ _ _ _ _ HP.out (swp_permIn dk a b i' j' (by omega) (by omega) (by omega) (by omega) (by rw [HS3.out.size]; exact hb)), HQ.out.swap (by rw [HS3.out.size]; omega) (by omega) hlt3 (by rw [← HG.out, ← HA.out]; exact HUP.out) (by rw [← HG.out, ← HA.out]; exact HDN.out)⟩
              case round =>
                clear hcw hfw HS3 HP HQ HUP HDN HG HA hlt3
                obtain ⟨i, j, dk, rfl, rfl, hai, hij, hjb, HS, HP, HQ⟩ := hrel
                obtain ⟨G, hG⟩ := gname dk
                have HG : Hid (∀ t, G t = dk[t]!) := hG
                have HA : Hid (G a = P) := (hG a).trans HQ.out.at_
                clear hG
                go_wp2
                go_loopw [10] (fun vi w1 => ∃ (i' : Nat), vi = .int .i64 i' ∧ i ≤ i' ∧ i' ≤ j + 1 ∧ Hid (Sw w0 blk off n dk w1) ∧ Hid (Pt a b P i' j dk)) (fun vi _ => j + 1 - (intOf vi).toNat)
                case atStart => exact ⟨i, rfl, Nat.le_refl _, hij, HS, HQ⟩
                case round =>
                  clear HS HQ
                  obtain ⟨i', rfl, hii, hij', HS, HQ⟩ := hrel
                  have hcw : ∀ t, t < n → wr.cell? ⟨blk, off + t, none⟩ = some (.int .u64 (G t)) := fun t ht => by rw [HG.out]; exact HS.out.cells B t ht
                  have hfw := HS.out.soft B
                  by_cases hle : i' ≤ j
                  · go_wp2_with fail
                    go_big_quiet (first | (go_at_call 94; refine Calls.quiet_of_same (sless_any _ _ _)))
                    go_wp2
                    · have ht : ltInt (G i') (G a) = true := by assumption
                      go_roundw
                      case rel => exact ⟨i' + 1, by go_num, by omega, by omega, HS.out.drewN _, HQ.out.up (by rw [← HG.out]; simpa using ht) HA.out⟩
                      case measure => simp [intOf]; omega
                    · have ht : ltInt (G i') (G a) = false := by assumption
                      have hup : i' ≤ j → ltInt (G i') (G a) = false := fun _ => by simpa using ht
                      clear ht
                      go_loopw [11] (fun vj w2 => ∃ (j' : Nat), vj = .int .i64 j' ∧ j' ≤ j ∧ i' ≤ j' + 1 ∧ Hid (Sw w0 blk off n dk w2) ∧ Hid (Pt a b P i' j' dk)) (fun vj _ => (intOf vj).toNat)
                      case atStart => exact ⟨j, rfl, Nat.le_refl _, hij', HS.out.drewN _, HQ⟩
                      case round =>
                        clear hcw hfw HS
                        obtain ⟨j', rfl, hjj, hij2, HS, HQ⟩ := hrel
                        have hcw : ∀ t, t < n → wr.cell? ⟨blk, off + t, none⟩ = some (.int .u64 (G t)) := fun t ht => by rw [HG.out]; exact HS.out.cells B t ht
                        have hfw := HS.out.soft B
                        by_cases hle2 : i' ≤ j'
                        · go_wp2_with fail
                          go_big_quiet (first | (go_at_call 94; refine Calls.quiet_of_same (sless_any _ _ _)))
                          go_wp2
                          · have ht : (!ltInt (G j') (G a)) = true := by assumption
                            go_roundw
                            case rel => exact ⟨j' - 1, by go_num, by omega, by omega, HS.out.drewN _, HQ.out.down (by omega) (by rw [← HG.out]; simpa using ht) HA.out⟩
                            case measure => simp [intOf]; omega
                          · have ht : (!ltInt (G j') (G a)) = false := by assumption
                            have hdn : ltInt (G j') (G a) = true := by simpa using ht
                            clear ht
                            have HS3 : Hid (Sw w0 blk off n dk (wr.drewN nq)) := HS.out.drewN nq
                            clear hcw hfw HS
                            generalize wr.drewN nq = wr3 at HS3 ⊢
                            have hcw : ∀ t, t < n → wr3.cell? ⟨blk, off + t, none⟩ = some (.int .u64 (G t)) := fun t ht => by rw [HG.out]; exact HS3.out.cells B t ht
                            have hfw := HS3.out.soft B
                            have hne : i' ≠ j' := fun e => by subst e; have hup' := hup (by omega); rw [hup'] at hdn; cases hdn
                            have hlt3 : i' < j' := by omega
                            have HUP := Lib.hid (hup (by omega))
                            have HDN := Lib.hid hdn
                            clear hup hdn hne
                            go_wp2
                            go_region
                            all_goals go_wp2
                            all_goals go_roundw
                            case rel => exact ⟨i' + 1, j' - 1, swp dk i' j', by go_num, by go_num, by omega, by omega, by omega, (HS3.out.swap B (by omega) (by omega) (HG.out _) (HG.out _)).drew, permIn_trans _ _ _ _ _ HP.out (swp_permIn dk a b i' j' (by omega) (by omega) (by omega) (by omega) (by rw [HS3.out.size]; exact hb)), HQ.out.swap (by rw [HS3.out.size]; omega) (by omega) hlt3 (by rw [← HG.out, ← HA.out]; exact HUP.out) (by rw [← HG.out, ← HA.out]; exact HDN.out)⟩
                            case measure => simp [intOf]; omega
                        · go_wp2_with fail
                          go_big_quiet (first | (go_at_call 94; refine Calls.quiet_of_same (sless_any _ _ _)))
                          have HS3 : Hid (Sw w0 blk off n dk (wr.drewN nq)) := HS.out.drewN nq
                          clear hcw hfw HS
                          generalize wr.drewN nq = wr3 at HS3 ⊢
                          have hcw : ∀ t, t < n → wr3.cell? ⟨blk, off + t, none⟩ = some (.int .u64 (G t)) := fun t ht => by rw [HG.out]; exact HS3.out.cells B t ht
                          have hfw := HS3.out.soft B
                          have hij3 : i' = j' + 1 := by omega
                          have HS4 : Hid (Sw w0 blk off n (swp dk j' a) ((wr3.setCell ⟨blk, off + j', none⟩ (.int .u64 (G a))).setCell ⟨blk, off + a, none⟩ (.int .u64 (G j'))).drew) := (HS3.out.swap B (by omega) hla (HG.out _) (HG.out _)).drew
                          obtain ⟨v3, hy3⟩ := HS3.out.two B (show j' < n by omega) hla (.int .u64 (G a))
                          go_wp2
                          go_region
                          all_goals go_wp2
                          clear hcw hfw hy3
                          go_ret2
                          refine ⟨j', false, swp dk j' a, rfl, by omega, by omega, permIn_trans _ _ _ _ _ HP.out (swp_permIn dk a b j' a (by omega) (by omega) (by omega) (by omega) (by rw [HS3.out.size]; exact hb)), ?_, HS4.out⟩
                          have hq := HQ.out
                          subst hij3
                          exact hq.done (by rw [HS3.out.size]; omega) (by omega)
                  · go_wp2_with fail
                    go_big_quiet (first | (go_at_call 94; refine Calls.quiet_of_same (sless_any _ _ _)))
                    go_wp2
                    have hup : i' ≤ j → ltInt (G i') (G a) = false := fun h => absurd h hle
                    go_loopw [11] (fun vj w2 => ∃ (j' : Nat), vj = .int .i64 j' ∧ j' ≤ j ∧ i' ≤ j' + 1 ∧ Hid (Sw w0 blk off n dk w2) ∧ Hid (Pt a b P i' j' dk)) (fun vj _ => (intOf vj).toNat)
                    case atStart => exact ⟨j, rfl, Nat.le_refl _, hij', HS.out.drewN _, HQ⟩
                    case round =>
                      clear hcw hfw HS
                      obtain ⟨j', rfl, hjj, hij2, HS, HQ⟩ := hrel
                      have hcw : ∀ t, t < n → wr.cell? ⟨blk, off + t, none⟩ = some (.int .u64 (G t)) := fun t ht => by rw [HG.out]; exact HS.out.cells B t ht
                      have hfw := HS.out.soft B
                      by_cases hle2 : i' ≤ j'
                      · exfalso; omega
                      · go_wp2_with fail
                        go_big_quiet (first | (go_at_call 94; refine Calls.quiet_of_same (sless_any _ _ _)))
                        have HS3 : Hid (Sw w0 blk off n dk (wr.drewN nq)) := HS.out.drewN nq
                        clear hcw hfw HS
                        generalize wr.drewN nq = wr3 at HS3 ⊢
                        have hcw : ∀ t, t < n → wr3.cell? ⟨blk, off + t, none⟩ = some (.int .u64 (G t)) := fun t ht => by rw [HG.out]; exact HS3.out.cells B t ht
                        have hfw := HS3.out.soft B
                        have hij3 : i' = j' + 1 := by omega
                        have HS4 : Hid (Sw w0 blk off n (swp dk j' a) ((wr3.setCell ⟨blk, off + j', none⟩ (.int .u64 (G a))).setCell ⟨blk, off + a, none⟩ (.int .u64 (G j'))).drew) := (HS3.out.swap B (by omega) hla (HG.out _) (HG.out _)).drew
                        obtain ⟨v3, hy3⟩ := HS3.out.two B (show j' < n by omega) hla (.int .u64 (G a))
                        go_wp2
                        go_region
                        all_goals go_wp2
                        clear hcw hfw hy3
                        go_ret2
                        refine ⟨j', false, swp dk j' a, rfl, by omega, by omega, permIn_trans _ _ _ _ _ HP.out (swp_permIn dk a b j' a (by omega) (by omega) (by omega) (by omega) (by rw [HS3.out.size]; exact hb)), ?_, HS4.out⟩
                        have hq := HQ.out
                        subst hij3
                        exact hq.done (by rw [HS3.out.size]; omega) (by omega)
          · go_wp2_with fail
            go_big_quiet (first | (go_at_call 94; refine Calls.quiet_of_same (sless_any _ _ _)))
            have HS3 : Hid (Sw w0 blk off n dk (wr.drewN nq)) := HS.out.drewN nq
            clear hcw hfw HS
            generalize wr.drewN nq = wr3 at HS3 ⊢
            have hcw : ∀ t, t < n → wr3.cell? ⟨blk, off + t, none⟩ = some (.int .u64 (G t)) := fun t ht => by rw [HG.out]; exact HS3.out.cells B t ht
            have hfw := HS3.out.soft B
            have hij3 : i' = j' + 1 := by omega
            have HS4 : Hid (Sw w0 blk off n (swp dk j' a) ((wr3.setCell ⟨blk, off + j', none⟩ (.int .u64 (G a))).setCell ⟨blk, off + a, none⟩ (.int .u64 (G j'))).drew) := (HS3.out.swap B (by omega) hla (HG.out _) (HG.out _)).drew
            obtain ⟨v3, hy3⟩ := HS3.out.two B (show j' < n by omega) hla (.int .u64 (G a))
            go_wp2
            go_region
            all_goals go_wp2
            clear hcw hfw hy3
            go_ret2
            refine ⟨j', true, swp dk j' a, rfl, by omega, by omega, permIn_trans _ _ _ _ _ HP.out (swp_permIn dk a b j' a (by omega) (by omega) (by omega) (by omega) (by rw [HS3.out.size]; exact hb)), ?_, HS4.out⟩
            have hq := HQ.out
            subst hij3
            exact hq.done (by rw [HS3.out.size]; omega) (by omega)
    · go_wp2_with fail
      go_big_quiet (first | (go_at_call 94; refine Calls.quiet_of_same (sless_any _ _ _)))
      go_wp2
      have hup : i' ≤ j → ltInt (G i') (G a) = false := fun h => absurd h hle
      go_loopw [11] (fun vj w2 => ∃ (j' : Nat), vj = .int .i64 j' ∧ j' ≤ j ∧ i' ≤ j' + 1 ∧ Hid (Sw w0 blk off n dk w2) ∧ Hid (Pt a b P i' j' dk)) (fun vj _ => (intOf vj).toNat)
      case atStart => exact ⟨j, rfl, Nat.le_refl _, hij', HS.out.drewN _, HQ⟩
      case round =>
        clear hcw hfw HS
        obtain ⟨j', rfl, hjj, hij2, HS, HQ⟩ := hrel
        have hcw : ∀ t, t < n → wr.cell? ⟨blk, off + t, none⟩ = some (.int .u64 (G t)) := fun t ht => by rw [HG.out]; exact HS.out.cells B t ht
        have hfw := HS.out.soft B
        by_cases hle2 : i' ≤ j'
        · exfalso; omega
        · go_wp2_with fail
          go_big_quiet (first | (go_at_call 94; refine Calls.quiet_of_same (sless_any _ _ _)))
          have HS3 : Hid (Sw w0 blk off n dk (wr.drewN nq)) := HS.out.drewN nq
          clear hcw hfw HS
          generalize wr.drewN nq = wr3 at HS3 ⊢
          have hcw : ∀ t, t < n → wr3.cell? ⟨blk, off + t, none⟩ = some (.int .u64 (G t)) := fun t ht => by rw [HG.out]; exact HS3.out.cells B t ht
          have hfw := HS3.out.soft B
          have hij3 : i' = j' + 1 := by omega
          have HS4 : Hid (Sw w0 blk off n (swp dk j' a) ((wr3.setCell ⟨blk, off + j', none⟩ (.int .u64 (G a))).setCell ⟨blk, off + a, none⟩ (.int .u64 (G j'))).drew) := (HS3.out.swap B (by omega) hla (HG.out _) (HG.out _)).drew
          obtain ⟨v3, hy3⟩ := HS3.out.two B (show j' < n by omega) hla (.int .u64 (G a))
          go_wp2
          go_region
          all_goals go_wp2
          clear hcw hfw hy3
          go_ret2
          refine ⟨j', true, swp dk j' a, rfl, by omega, by omega, permIn_trans _ _ _ _ _ HP.out (swp_permIn dk a b j' a (by omega) (by omega) (by omega) (by omega) (by rw [HS3.out.size]; exact hb)), ?_, HS4.out⟩
          have hq := HQ.out
          subst hij3
          exact hq.done (by rw [HS3.out.size]; omega) (by omega)
end Go.Proofs.YtnnmalpnjlnnlaaGreat
