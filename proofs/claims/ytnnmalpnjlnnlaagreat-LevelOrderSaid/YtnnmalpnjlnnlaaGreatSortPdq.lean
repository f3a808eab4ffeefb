/-
  A slice of numbers of 64 bits as the library's sort finds it: the whole sort.
  How sorted parts are glued follows Derived.Sort.LotD3 (round_eq, round_part), said of what a parting leaves instead of the function.
-/
import Derived.Test.YtnnmalpnjlnnlaaGreatSortHeap
import Derived.Test.YtnnmalpnjlnnlaaGreatSortPart
import Derived.Test.YtnnmalpnjlnnlaaGreatSortIns
import Derived.Test.YtnnmalpnjlnnlaaGreatSortPiv
import Derived.Sort.AssemblyPlain
import Derived.Deep.Cut
namespace Go.Proofs.YtnnmalpnjlnnlaaGreat
open Go.ChangeShapes Go.WideShapes Go.ChangeAt Go.RowKit
open Go.Sort
open Su
set_option linter.unusedVariables false
set_option maxRecDepth 100000
set_option maxHeartbeats 16000000
namespace Su
/-- what is left to be sorted is from a' up to b': whoever sorts that has sorted all -/
structure Goes (a b : Nat) (d : Array Int) (a' b' : Nat) (dk : Array Int) : Prop where
  below : Below ltInt a' b' dk
  go : ∀ R, PermIn a' b' dk R → SortedIn ltInt a' b' R → PermIn a b d R ∧ SortedIn ltInt a b R
variable {a b a' b' mid p : Nat} {d dk d4 L : Array Int}
theorem Goes.start (h : Below ltInt a b d) : Goes a b d a b d := ⟨h, fun _ h1 h2 => ⟨h1, h2⟩⟩
theorem Goes.perm (h : Goes a b d a' b' dk) (hb : b' ≤ dk.size) (hp : PermIn a' b' dk d4) : Goes a b d a' b' d4 :=
  ⟨h.below.perm hb hp, fun R h1 h2 => h.go R (permIn_trans _ _ _ _ _ hp h1) h2⟩
theorem Goes.eq (h : Goes a b d a' b' dk) (hb : b' ≤ dk.size) (ha0 : 0 < a') (hp1 : a' ≤ p) (hp2 : p < b') (hnl : ltInt dk[a' - 1]! dk[p]! = false) (h1 : a' < mid) (h2 : mid ≤ b') (hperm : PermIn a' b' dk d4)
    (hle : ∀ t, a' ≤ t → t < mid → ltInt dk[p]! d4[t]! = false) (hgt : ∀ t, mid ≤ t → t < b' → ltInt dk[p]! d4[t]! = true) : Goes a b d mid b' d4 := by
  have S := swo_ltInt
  have hge : ∀ i, a' ≤ i → i < b' → ltInt dk[i]! dk[p]! = false := fun i hi hi' => by
    rcases h.below with h0 | hB
    · omega
    · exact S.ntrans _ _ _ (hB i hi hi') hnl
  have hge4 := permIn_all dk d4 a' b' (fun x => ltInt x dk[p]! = false) hb hperm hge
  have hb4 : b' ≤ d4.size := by rw [hperm.1]; exact hb
  refine ⟨Or.inr fun i hi hi' => ?_, fun R hR hs => h.go R (permIn_trans _ _ _ _ _ hperm (permIn_mono _ _ mid b' a' b' (by omega) (Nat.le_refl _) hb4 hR)) ?_⟩
  · have q1 := hgt i hi hi'
    have q2 := hle (mid - 1) (by omega) (by omega)
    simp only [ltInt, decide_eq_true_eq, decide_eq_false_iff_not] at q1 q2 ⊢
    omega
  · refine sorted_glue_eq S dk[p]! hs (fun i hi hi' => ?_) (fun i hi hi' => ?_) (permIn_all d4 R mid b' (fun x => ltInt dk[p]! x = true) hb4 hR hgt)
    · rw [hR.2.1 i (Or.inl hi')]; exact hle i hi hi'
    · rw [hR.2.1 i (Or.inl hi')]; exact hge4 i hi (by omega)
theorem Goes.left_below (h : Goes a b d a' b' dk) (h2 : mid < b') (hb : b' ≤ dk.size) (hperm : PermIn a' b' dk d4) : Below ltInt a' mid d4 := (h.below.perm hb hperm).mono (by omega)
theorem right_below (hP : Parted a' b' mid d4) : Below ltInt (mid + 1) b' d4 := Or.inr fun i hi hi' => by rw [Nat.add_sub_cancel]; exact hP.hi i (by omega) hi'
theorem Goes.left (h : Goes a b d a' b' dk) (hb : b' ≤ dk.size) (h1 : a' ≤ mid) (h2 : mid < b') (hperm : PermIn a' b' dk d4) (hP : Parted a' b' mid d4) (hL : PermIn a' mid d4 L) (hsL : SortedIn ltInt a' mid L) : Goes a b d (mid + 1) b' L := by
  have S := swo_ltInt
  have hb4 : b' ≤ d4.size := by rw [hperm.1]; exact hb
  have hbL : b' ≤ L.size := by rw [hL.1]; exact hb4
  have eL : ∀ i, mid ≤ i → L[i]! = d4[i]! := fun i hi => hL.2.1 i (Or.inr hi)
  refine ⟨Or.inr fun i hi hi' => by rw [Nat.add_sub_cancel, eL i (by omega), eL mid (Nat.le_refl _)]; exact hP.hi i (by omega) hi', fun R hR hsR => ?_⟩
  have eR : ∀ i, i ≤ mid → R[i]! = L[i]! := fun i hi => hR.2.1 i (Or.inl (by omega))
  refine h.go R (permIn_trans _ _ _ _ _ hperm (permIn_trans _ _ _ _ _ (permIn_mono _ _ a' mid a' b' (Nat.le_refl _) (by omega) hb4 hL) (permIn_mono _ _ (mid + 1) b' a' b' (by omega) (Nat.le_refl _) hbL hR))) ?_
  refine sorted_glue S (hsL.congr fun i _ hi' => eR i (by omega)) hsR (fun i hi hi' => ?_) (fun i hi hi' => ?_)
  · rw [eR i (by omega), eR mid (Nat.le_refl _), eL mid (Nat.le_refl _)]
    exact permIn_all d4 L a' mid (fun x => ltInt x d4[mid]! = true) (by omega) hL hP.lo i hi hi'
  · rw [eR mid (Nat.le_refl _), eL mid (Nat.le_refl _)]
    exact permIn_all L R (mid + 1) b' (fun x => ltInt x d4[mid]! = false) hbL hR (fun k hk hk' => by rw [eL k (by omega)]; exact hP.hi k (by omega) hk') i (by omega) hi'
theorem Goes.right (h : Goes a b d a' b' dk) (hb : b' ≤ dk.size) (h1 : a' ≤ mid) (h2 : mid < b') (hperm : PermIn a' b' dk d4) (hP : Parted a' b' mid d4) (hL : PermIn (mid + 1) b' d4 L) (hsL : SortedIn ltInt (mid + 1) b' L) : Goes a b d a' mid L := by
  have S := swo_ltInt
  have hb4 : b' ≤ d4.size := by rw [hperm.1]; exact hb
  have hbL : b' ≤ L.size := by rw [hL.1]; exact hb4
  have eL : ∀ i, i ≤ mid → L[i]! = d4[i]! := fun i hi => hL.2.1 i (Or.inl (by omega))
  refine ⟨?_, fun R hR hsR => ?_⟩
  · rcases h.left_below h2 hb hperm with h0 | hBa
    · exact Or.inl h0
    · exact Or.inr fun i hi hi' => by rw [eL i (by omega), eL (a' - 1) (by omega)]; exact hBa i hi hi'
  have eR : ∀ i, mid ≤ i → R[i]! = L[i]! := fun i hi => hR.2.1 i (Or.inr hi)
  refine h.go R (permIn_trans _ _ _ _ _ hperm (permIn_trans _ _ _ _ _ (permIn_mono _ _ (mid + 1) b' a' b' (by omega) (Nat.le_refl _) hb4 hL) (permIn_mono _ _ a' mid a' b' (Nat.le_refl _) (by omega) hbL hR))) ?_
  refine sorted_glue S hsR (hsL.congr fun i hi _ => eR i (by omega)) (fun i hi hi' => ?_) (fun i hi hi' => ?_)
  · rw [eR mid (Nat.le_refl _), eL mid (Nat.le_refl _)]
    exact permIn_all L R a' mid (fun x => ltInt x d4[mid]! = true) (by omega) hR (fun k hk hk' => by rw [eL k (by omega)]; exact hP.lo k hk hk') i hi hi'
  · rw [eR i (by omega), eR mid (Nat.le_refl _), eL mid (Nat.le_refl _)]
    exact permIn_all d4 L (mid + 1) b' (fun x => ltInt x d4[mid]! = false) hb4 hL (fun k hk hk' => hP.hi k (by omega) hk') i (by omega) hi'
end Su
def Flag (t : Bool) (p : Prop) : Prop := t = true → p
theorem spdq_all : ∀ (N : Nat) (w0 w : World) (blk off n : Nat) (d : Array Int) (B : Base w0 blk off n) (S : Sw w0 blk off n d w) (cap a b lim : Nat), b - a ≤ N → a ≤ b → b ≤ n → lim < 4611686018427387904 → Below ltInt a b d →
    Calls Tryz.prog 99 #[.slice (some ⟨blk, off, none⟩) n cap, .int .i64 a, .int .i64 b, .int .i64 lim] w fun e w' =>
      e = .returned (.tuple #[]) ∧ ∃ d', PermIn a b d d' ∧ SortedIn ltInt a b d' ∧ Sw w0 blk off n d' w' := by
  intro N
  induction N with
  | zero =>
    intro w0 w blk off n d B S cap a b lim hN hab hb hlim hB
    have hfew := B.few
    have hc := sins_any B S cap a b hab hb
    have HC := Lib.hid hc
    have hI := insertionSort_holds swo_ltInt d a b hab (by rw [S.size]; exact hb)
    have HI := Lib.hid hI
    clear hc hI S hB
    obtain rfl : a = b := by omega
    go_enter Tryz.func99, Tryz.ntmps99
    go_wp2
    go_loopg [1, 2, 3, 8, 9] 0 (fun k s1 s2 s3 s8 s9 wr => s1 = .int .i64 a ∧ s2 = .int .i64 a ∧ s3 = .int .i64 lim ∧ s8 = .bool true ∧ s9 = .bool true ∧ wr = w)
    case atStart => exact ⟨rfl, rfl, rfl, rfl, rfl, rfl⟩
    case round =>
      obtain ⟨rfl, rfl, rfl, rfl, rfl, rfl⟩ := hrel
      go_wp2_with fail
      refine HC.out.mono ?_
      rintro e w1 ⟨rfl, hS1⟩
      go_wp2
      (try simp only [Exit.inBlock, Exit.then]); refine bodyPost_ret (results_none rfl _ _ _) rfl ?_
      exact ⟨rfl, _, HI.out.1, HI.out.2, hS1⟩
  | succ N ih =>
    intro w0 w blk off n d B S cap a b lim hN hab hb hlim hB
    have hfew := B.few
    have HS := Lib.hid S
    have HG := Lib.hid (Goes.start hB)
    have IH := Lib.hid ih
    clear S hB ih
    go_enter Tryz.func99, Tryz.ntmps99
    go_wp2
    go_loopg [1, 2, 3, 8, 9] (b - a) (fun k s1 s2 s3 s8 s9 wr => ∃ (a' b' l' : Nat) (wb wp : Bool) (dk : Array Int), s1 = .int .i64 a' ∧ s2 = .int .i64 b' ∧ s3 = .int .i64 l' ∧ s8 = .bool wb ∧ s9 = .bool wp ∧ a' ≤ b' ∧ b' ≤ b ∧ b' - a' ≤ k ∧ k ≤ N + 1 ∧ l' ≤ lim ∧ Hid (Sw w0 blk off n dk wr) ∧ Hid (Goes a b d a' b' dk))
    case atStart => exact ⟨a, b, lim, true, true, d, rfl, rfl, rfl, rfl, rfl, hab, Nat.le_refl _, Nat.le_refl _, hN, Nat.le_refl _, HS, HG⟩
    case round =>
      clear HS HG
      obtain ⟨a', b', l', wb, wp, dk, rfl, rfl, rfl, rfl, rfl, hab', hbb', hk, hkN, hll, HS, HG⟩ := hrel
      have hsz : dk.size = n := HS.out.size
      by_cases h12 : b' - a' ≤ 12
      · have h12z : (b' : Int) - (a' : Int) ≤ 12 := by omega
        have HI := Lib.hid (insertionSort_holds swo_ltInt dk a' b' hab' (by rw [hsz]; omega))
        go_wp2_with fail
        refine (sins_any B HS.out cap a' b' hab' (by omega)).mono ?_
        rintro e w1 ⟨rfl, hS1⟩
        go_wp2
        (try simp only [Exit.inBlock, Exit.then]); refine bodyPost_ret (results_none rfl _ _ _) rfl ?_
        have hg := HG.out.go _ HI.out.1 HI.out.2
        exact ⟨rfl, _, hg.1, hg.2, hS1⟩
      · have h12z : ¬ ((b' : Int) - (a' : Int) ≤ 12) := by omega
        by_cases hl0 : l' = 0
        · subst hl0
          have HI := Lib.hid (heapSort_holds swo_ltInt dk a' b' hab' (by rw [hsz]; omega))
          go_wp2_with fail
          refine (sheap_any B HS.out cap a' b' hab' (by omega)).mono ?_
          rintro e w1 ⟨rfl, hS1⟩
          go_wp2
          (try simp only [Exit.inBlock, Exit.then]); refine bodyPost_ret (results_none rfl _ _ _) rfl ?_
          have hg := HG.out.go _ HI.out.1 HI.out.2
          exact ⟨rfl, _, hg.1, hg.2, hS1⟩
        · have hl0z : ¬ ((l' : Int) = 0) := by omega
          clear hsz
          go_upto_if 35 with fail
          go_cut [3] from 19 (fun s3 wc => ∃ (l1 : Nat) (d1 : Array Int), s3 = .int .i64 l1 ∧ l1 ≤ lim ∧ Hid (Sw w0 blk off n d1 wc) ∧ Hid (Goes a b d a' b' d1))
          case first =>
            cases wb
            · go_wp2_with fail
              refine (sbreak_any B HS.out cap a' b' hab' (by omega)).mono ?_
              rintro e w1 ⟨rfl, d1, hp1, hS1⟩
              go_wp2_with fail
              go_meet
              case rel => exact ⟨l' - 1, d1, by congr 1; omega, by omega, hS1, HG.out.perm (by rw [HS.out.size]; omega) hp1⟩
            · go_wp2_with fail
              go_meet
              case rel => exact ⟨l', dk, rfl, hll, HS, HG⟩
          case rest =>
            clear HS HG
            obtain ⟨l1, d1, rfl, hl1, HS, HG⟩ := hcut
            go_upto_if 50 with (go_at_call 115; refine (spiv_any B HS.out cap a' b' (by omega) (by omega)).mono ?_; rintro e w2 ⟨p, hint, rfl, hp1, hp2, S2⟩)
            clear HS
            have HS := Lib.hid S2
            clear S2
            go_cut [11, 12] from 19 (fun s11 s12 wc => ∃ (p1 h1 : Nat) (d2 : Array Int), s11 = .int .i64 p1 ∧ s12 = .int .i64 h1 ∧ a' ≤ p1 ∧ p1 < b' ∧ Hid (Sw w0 blk off n d2 wc) ∧ Hid (Goes a b d a' b' d2))
            case first =>
              by_cases hh : hint = 2
              · subst hh
                go_wp2_with fail
                refine (srev_any B HS.out cap a' b' hab' (by omega)).mono ?_
                rintro e w3 ⟨rfl, d2, hpp, hS1⟩
                go_wp2_with fail
                go_meet
                case rel => exact ⟨(b' - 1) - (p - a'), 1, d2, by congr 1; omega, rfl, by omega, by omega, hS1, HG.out.perm (by rw [HS.out.size]; omega) hpp⟩
              · have hhz : ¬ ((hint : Int) = 2) := by omega
                go_wp2_with fail
                go_meet
                case rel => exact ⟨p, hint, d1, rfl, rfl, hp1, hp2, HS, HG⟩
            case rest =>
              clear HS HG
              obtain ⟨p1, h1, d2, rfl, rfl, hq1, hq2, HS, HG⟩ := hcut
              go_upto_region 15 with fail
              go_cut [12, 68] from 19 (fun s12 s68 wx => ∃ t : Bool, s12 = .int .i64 h1 ∧ s68 = .bool t ∧ wx = wc)
              case first =>
                by_cases hh1 : (h1 : Int) = 1
                all_goals
                  cases wb <;> cases wp <;>
                  (go_wp2_with fail
                   go_meet
                   first | exact ⟨_, rfl, rfl, rfl⟩ | exact ⟨_, by rw [hh1], rfl, rfl⟩)
              case rest =>
                obtain ⟨t, rfl, rfl, rfl⟩ := hcut
                go_upto_if 68 with fail
                go_cut [] from 19 (fun wx => ∃ (d3 : Array Int), Hid (Sw w0 blk off n d3 wx) ∧ Hid (Goes a b d a' b' d3))
                case first =>
                  cases t
                  · go_wp2_with fail
                    go_meet
                    case rel => exact ⟨d2, HS, HG⟩
                  · go_wp2_with fail
                    refine (spins_any B HS.out cap a' b' (by omega) (by omega) HG.out.below).mono ?_
                    rintro e w4 ⟨r, d3, rfl, hpp, hss, hS1⟩
                    have HSS := Lib.hid hss
                    clear hss
                    cases r
                    · go_wp2_with fail
                      go_meet
                      case rel => exact ⟨d3, hS1, HG.out.perm (by rw [HS.out.size]; omega) hpp⟩
                    · go_wp2_with fail
                      (try simp only [Exit.inBlock, Exit.then]); refine bodyPost_ret (results_none rfl _ _ _) rfl ?_
                      have hg := HG.out.go _ hpp (HSS.out trivial)
                      exact ⟨rfl, _, hg.1, hg.2, hS1⟩
                case rest =>
                  clear HS HG
                  obtain ⟨d3, HS, HG⟩ := hcut
                  obtain ⟨G, hG⟩ := gname d3
                  have hcw : ∀ t, t < n → wc.cell? ⟨blk, off + t, none⟩ = some (.int .u64 (G t)) := fun t ht => by rw [hG]; exact HS.out.cells B t ht
                  have hfw := HS.out.soft B
                  have HGG : Hid (∀ t, G t = d3[t]!) := hG
                  clear hG
                  go_upto_region 17 with fail
                  go_cut [87] from 19 (fun s87 wx => ∃ t : Bool, s87 = .bool t ∧ Flag t (0 < a' ∧ ltInt d3[a' - 1]! d3[p1]! = false) ∧ Hid (Sw w0 blk off n d3 wx))
                  case first =>
                    rcases Nat.eq_zero_or_pos a' with ha0 | ha0
                    · have ha0z : decide ((a' : Int) > 0) = false := decide_eq_false (by omega)
                      go_big_quiet (first | (go_at_call 94; refine Calls.quiet_of_same (sless_any _ _ _)))
                      go_wp2_with fail
                      go_meet
                      case rel => exact ⟨_, rfl, (fun h => by cases h), HS.out.drewN _⟩
                    · have ha0z : (a' : Int) > 0 := by omega
                      go_big_quiet (first | (go_at_call 94; refine Calls.quiet_of_same (sless_any _ _ _)))
                      go_wp2_with fail
                      go_meet
                      case rel => exact ⟨_, rfl, (fun h => ⟨ha0, by rw [← HGG.out, ← HGG.out]; simpa using h⟩), HS.out.drewN _⟩
                  case rest =>
                    clear HS hcw hfw HGG
                    obtain ⟨t, rfl, hF, HS⟩ := hcut
                    have HF := Lib.hid hF
                    clear hF
                    cases t
                    · go_upto_if 113 with (go_at_call 119; refine (spart_any B HS.out cap a' b' p1 hq1 hq2 (by omega)).mono ?_; rintro e w7 ⟨mid, ap, d4, rfl, r1, r2, hpp, hPt, hS7⟩)
                      have HP := Lib.hid hpp
                      have HPT := Lib.hid hPt
                      have hsz4 := Lib.hid hS7.size
                      have HS7 := Lib.hid hS7
                      have hsz := Lib.hid HS.out.size
                      clear hpp hPt hS7 HS
                      by_cases h4 : mid - a' < b' - mid
                      · have h4z : (mid : Int) - (a' : Int) < (b' : Int) - (mid : Int) := by omega
                        go_wp2_with fail
                        refine (IH.out _ _ _ _ _ _ B HS7.out cap a' mid l1 (by omega) r1 (by omega) (by omega) (HG.out.left_below r2 (by rw [hsz.out]; omega) HP.out)).mono ?_
                        rintro e w8 ⟨rfl, dL, hpL, hsL, hS8⟩
                        go_wp2_with fail
                        go_roundg (b' - (mid + 1))
                        case measure => omega
                        case rel => exact ⟨mid + 1, b', l1, _, ap, dL, by simp, rfl, rfl, rfl, rfl, by omega, hbb', Nat.le_refl _, by omega, hl1, hS8, HG.out.left (by rw [hsz.out]; omega) r1 r2 HP.out HPT.out hpL hsL⟩
                      · have h4z : ¬ ((mid : Int) - (a' : Int) < (b' : Int) - (mid : Int)) := by omega
                        have em : (mid : Int) + 1 = ((mid + 1 : Nat) : Int) := by omega
                        obtain ⟨m1, hm1⟩ : ∃ m, m = mid + 1 := ⟨_, rfl⟩
                        rw [← hm1] at em
                        have hcall := IH.out _ _ _ _ _ _ B HS7.out cap m1 b' l1 (by omega) (by omega) (by omega) (by omega) (by rw [hm1]; exact right_below HPT.out)
                        have HC := Lib.hid hcall
                        have HM := Lib.hid hm1
                        have hm2 : mid < m1 := by omega
                        clear hcall hm1
                        go_wp2_with fail
                        refine HC.out.mono ?_
                        rintro e w8 ⟨rfl, dL, hpL, hsL, hS8⟩
                        rw [HM.out] at hpL hsL
                        go_wp2_with fail
                        go_roundg (mid - a')
                        case measure => omega
                        case rel => exact ⟨a', mid, l1, _, ap, dL, rfl, rfl, rfl, rfl, rfl, r1, by omega, Nat.le_refl _, by omega, hl1, hS8, HG.out.right (by rw [hsz.out]; omega) r1 r2 HP.out HPT.out hpL hsL⟩
                    · obtain ⟨q1, q2⟩ := HF.out rfl
                      have HQ2 := Lib.hid q2
                      clear q2
                      go_wp2_with fail
                      refine (spareq_any B HS.out cap a' b' p1 hq1 hq2 (by omega)).mono ?_
                      rintro e w7 ⟨mid, d4, rfl, r1, r2, hpp, hle, hgt, hS7⟩
                      have HP := Lib.hid hpp
                      have HLE := Lib.hid hle
                      have HGT := Lib.hid hgt
                      clear hpp hle hgt
                      go_wp2_with fail
                      go_roundg (b' - mid)
                      case measure => omega
                      case rel => exact ⟨mid, b', l1, wb, wp, d4, rfl, rfl, rfl, rfl, rfl, r2, hbb', Nat.le_refl _, by omega, hl1, hS7, HG.out.eq (by rw [HS.out.size]; omega) q1 hq1 hq2 HQ2.out r1 r2 HP.out HLE.out HGT.out⟩
theorem ssort_any {w0 w : World} {blk off n : Nat} {d : Array Int} (B : Base w0 blk off n) (S : Sw w0 blk off n d w) (cap : Nat) :
    Calls Tryz.prog 80 #[.slice (some ⟨blk, off, none⟩) n cap] w fun e w' =>
      e = .returned (.tuple #[]) ∧ ∃ d', d'.toList = d.toList.mergeSort (fun x y => !ltInt y x) ∧ Sw w0 blk off n d' w' := by
  have hfew := B.few
  have hln : Lib.bitLen ((n : Int)).toNat ≤ 64 := Lib.bitLen_le _ 64 (by omega) (by omega)
  obtain ⟨q, hq⟩ : ∃ q, q = Lib.bitLen ((n : Int)).toNat := ⟨_, rfl⟩
  have hlen : ∀ W, Calls Tryz.prog 100 #[.int .u64 (n : Int)] W fun e w' => e = .returned (.int .i64 (q : Nat)) ∧ w' = W := fun W => by
    rw [hq]; exact Any.bits_Len (Tryz.lenX).bits (n : Int) W (by omega) (by omega)
  rw [← hq] at hln
  have HL := Lib.hid hlen
  have HC := Lib.hid (spdq_all n w0 w blk off n d B S cap 0 n q (by omega) (by omega) (Nat.le_refl _) (by omega) (Or.inl rfl))
  have hsz := S.size
  have HD := Lib.hid hsz
  clear hlen S hq hsz
  go_enter Tryz.func80, Tryz.ntmps80
  go_wp2_with (first | (go_at_call 100; refine (HL.out _).mono ?_; rintro e w' ⟨rfl, rfl⟩))
  refine HC.out.mono ?_
  rintro e w1 ⟨rfl, d', hp, hs, hS⟩
  go_wp2
  go_end0
  refine ⟨rfl, d', sorted_unique_holds swo_ltInt (fun x y h1 h2 => by simp only [ltInt, decide_eq_false_iff_not] at h1 h2; omega) d d' (by rw [HD.out]; exact hp) (by rw [HD.out]; exact hs), hS⟩
theorem sins_nil (w : World) (cap : Nat) : Calls Tryz.prog 112 #[.slice none 0 cap, .int .i64 0, .int .i64 0] w fun e w' => e = .returned (.tuple #[]) ∧ w' = w := by
  go_enter Tryz.func112, Tryz.ntmps112
  go_wp2
  go_loopg [6] 0 (fun k s6 wr => s6 = .int .i64 1 ∧ wr = w)
  case atStart => exact ⟨rfl, rfl⟩
  case round =>
    obtain ⟨rfl, rfl⟩ := hrel
    go_wp2
    go_end0
    exact ⟨rfl, rfl⟩
theorem spdq_nil (w : World) (cap q : Nat) : Calls Tryz.prog 99 #[.slice none 0 cap, .int .i64 0, .int .i64 0, .int .i64 q] w fun e w' => e = .returned (.tuple #[]) ∧ w' = w := by
  have HC := Lib.hid (sins_nil w cap)
  go_enter Tryz.func99, Tryz.ntmps99
  go_wp2
  go_loopg [1, 2, 3, 8, 9] 0 (fun k s1 s2 s3 s8 s9 wr => s1 = .int .i64 0 ∧ s2 = .int .i64 0 ∧ wr = w)
  case atStart => exact ⟨rfl, rfl, rfl⟩
  case round =>
    obtain ⟨rfl, rfl, rfl⟩ := hrel
    go_wp2_with fail
    refine HC.out.mono ?_
    rintro e w1 ⟨rfl, rfl⟩
    go_wp2
    (try simp only [Exit.inBlock, Exit.then]); refine bodyPost_ret (results_none rfl _ _ _) rfl ?_
    exact ⟨rfl, rfl⟩
theorem ssort_nil (w : World) (cap : Nat) : Calls Tryz.prog 80 #[.slice none 0 cap] w fun e w' => e = .returned (.tuple #[]) ∧ w' = w := by
  obtain ⟨q, hq⟩ : ∃ q, q = Lib.bitLen ((0 : Int)).toNat := ⟨_, rfl⟩
  have HL := Lib.hid (fun W => (show Calls Tryz.prog 100 #[.int .u64 0] W fun e w' => e = .returned (.int .i64 (q : Nat)) ∧ w' = W by rw [hq]; exact Any.bits_Len (Tryz.lenX).bits 0 W (by omega) (by omega)))
  have HC := Lib.hid (spdq_nil w cap q)
  clear hq
  go_enter Tryz.func80, Tryz.ntmps80
  go_wp2_with (first | (go_at_call 100; refine (HL.out _).mono ?_; rintro e w' ⟨rfl, rfl⟩))
  refine HC.out.mono ?_
  rintro e w1 ⟨rfl, rfl⟩
  go_wp2
  go_end0
  exact ⟨rfl, rfl⟩
end Go.Proofs.YtnnmalpnjlnnlaaGreat
