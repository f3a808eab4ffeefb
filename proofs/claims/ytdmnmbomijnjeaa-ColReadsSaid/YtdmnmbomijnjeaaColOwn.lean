/-
  The statements of layer 15: leases as the document's own; are two lists of them the same?
-/
import Derived.Test.YtdmnmbomijnjeaaColArgs
import Derived.Test.YtdmnmbomijnjeaaNumRefTake
import Derived.Test.YtdmnmbomijnjeaaStepApp
namespace Go.Proofs.Ytdmnmbomijnjeaa
open Go.ChangeShapes Go.WideShapes Go.ChangeAt Go.RowKit
set_option linter.unusedVariables false
set_option maxRecDepth 100000
set_option maxHeartbeats 4000000
open Co
theorem own_rls0 (w : World) : (w.alloc (.cells #[] 68)).ownsRow w.heap.size 68 3 (.slice (some ⟨w.heap.size, 0, none⟩) 0 0) 0 [] :=
  World.ownsRow_lit (base := w.heap.size) (e := 68) (size := 3) w #[] 0 (Nat.le_refl _) (by unfold maxLen; omega) rfl
theorem own_ls0 (w : World) : (w.alloc (.cells #[] 51)).ownsRow w.heap.size 51 3 (.slice (some ⟨w.heap.size, 0, none⟩) 0 0) 0 [] :=
  World.ownsRow_lit (base := w.heap.size) (e := 51) (size := 3) w #[] 0 (Nat.le_refl _) (by unfold maxLen; omega) rfl
theorem lsl_take {l : List Ls} {k : Nat} {x : Ls} (hx : l[k]? = some x) : lsl (l.take (k + 1)) = lsl (l.take k) ++ lsc x := by
  rw [List.take_add_one, hx]
  show lsl (l.take k ++ [x]) = _
  rw [lsl_app, lsl_one]
theorem clown_any {A : Option Addr} {l : List Ls} {w : World} (hA : Lss w A l) (hl : l.length ≤ 1000) (c : Nat) :
    Calls Try.prog 17 #[.slice A l.length c] w fun e w' => ∃ B c', e = .returned (.slice B l.length c') ∧ Lss w' B l ∧ l.length ≤ c' ∧ c' ≤ maxLen ∧ Kept w w' := by
  obtain ⟨i0, hi, hz0, hz1, hz2⟩ := info_parts rlsInfo
  have HI := Lib.hid hi; have HZ0 := Lib.hid hz0; have HZ1 := Lib.hid hz1; have HZ2 := Lib.hid hz2
  have HA := Lib.hid (fun W (hW : Kept w W) => hA.kept hW)
  clear hi hz0 hz1 hz2 hA
  go_enter Try.func17, Try.ntmps17
  go_wp2_with fail
  go_loopw [3, 8] (fun v t wr => ∃ (k : Nat), k ≤ l.length ∧ t = .int .i64 k ∧ wr.ownsRow w.heap.size 68 3 v k (lsl (l.take k)) ∧ Kept w wr) (fun _ t _ => l.length - (intOf t).toNat)
  case atStart => exact ⟨0, Nat.zero_le _, rfl, own_rls0 w, (Kept.refl _).alloc _⟩
  case round =>
    obtain ⟨k, hk, rfl, hown, hkr⟩ := hrel
    have hbase : w.heap.size ≤ wr.heap.size := Below.size hkr
    by_cases hlt : k < l.length
    · obtain ⟨x, hx⟩ : ∃ x, l[k]? = some x := ⟨_, List.getElem?_eq_getElem hlt⟩
      obtain ⟨b, o, rfl, hb, c0, c1, c2⟩ := HA.out w (Kept.refl _) k x hx
      have hkeep : ∀ W, Kept w W → W.cell? ⟨b, o + k * 3, none⟩ = some (.int .u64 (x.i : Nat)) ∧ W.cell? ⟨b, o + k * 3 + 1, none⟩ = some (.int .u64 (x.t : Nat)) ∧ W.cell? ⟨b, o + k * 3 + 2, none⟩ = some (.int .u64 (x.u : Nat)) := fun W hW =>
        ⟨by rw [kept_cell hW hb]; exact c0, by rw [kept_cell hW hb]; exact c1, by rw [kept_cell hW hb]; exact c2⟩
      have HST := Lib.hid (lsl_take hx)
      unfold lsc at HST
      have HK := Lib.hid hkeep
      obtain ⟨p0, p1, p2⟩ := hkeep _ hkr
      clear hx hkeep c0 c1 c2
      generalize x.i = xi at *
      generalize x.t = xt at *
      generalize x.u = xu at *
      have hown2 : ((wr.alloc (.cells #[.int .u64 (xi : Nat), .int .u64 (xt : Nat), .int .u64 (xu : Nat)] 68)).drew).ownsRow w.heap.size 68 3 u3 k (lsl (l.take k)) := hown.alloc _
      have hnew : ∀ j u, [Value.int .u64 (xi : Nat), .int .u64 (xt : Nat), .int .u64 (xu : Nat)][j]? = some u → ((wr.alloc (.cells #[.int .u64 (xi : Nat), .int .u64 (xt : Nat), .int .u64 (xu : Nat)] 68)).drew).cell? ((⟨wr.heap.size, 0, none⟩ : Addr).add j) = some u := clnew3 wr _ _ _ _ _ rfl
      have hbs : w.heap.size ≤ ((wr.alloc (.cells #[.int .u64 (xi : Nat), .int .u64 (xt : Nat), .int .u64 (xu : Nat)] 68)).drew).heap.size := by simp; omega
      have HOWN := Lib.hid hown2; have HNEW := Lib.hid hnew; have HBS := Lib.hid hbs
      have HROW := Lib.hid (fun b hb => (hown.lt b hb).1)
      clear hown2 hnew hbs hown
      go_upto_region 5 with fail
      go_region_held3 (fun w' => w'.cell? ⟨b, o + k * 3, none⟩ = some (.int .u64 (xi : Nat)) ∧ w'.cell? ⟨b, o + k * 3 + 1, none⟩ = some (.int .u64 (xt : Nat)) ∧ w'.cell? ⟨b, o + k * 3 + 2, none⟩ = some (.int .u64 (xu : Nat)))
        (first | exact HK.out _ (by assumption) | exact HK.out _ (kept_trans hkr (kept_of_drew (Kept.refl _))) | exact HK.out _ (kept_trans hkr ((kept_of_drew (Kept.refl _)).alloc _)))
        (first | (refine step_app rfl _ _ 35 rfl w.heap.size 68 i0 zlsV 3 24 Try.underlying35 HI.out HZ0.out HZ1.out HZ2.out rfl (by decide) u3 k (lsl (l.take k)) rfl HOWN.out ⟨wr.heap.size, 0, none⟩ 1 1 [.int .u64 (xi : Nat), .int .u64 (xt : Nat), .int .u64 (xu : Nat)] rfl rfl HNEW.out (by simp [Value.oneCell']) (by unfold maxLen; omega) (by omega) HBS.out ?_; intro v' w2 hown3 hg ha; have g2 : Kept w w2 := Below.grown (kept_trans hkr ((kept_of_drew (Kept.refl wr.drew)).alloc _)) hg HBS.out HROW.out; have g3 := HK.out _ g2; clear ha))
      all_goals
        rw [← HST.out] at hown3
        clear HK HOWN HNEW HBS HROW hg p0 p1 p2
        go_wp2_with fail
        go_roundw
        case rel => exact ⟨k + 1, by omega, by go_num, hown3, g2⟩
        case measure => simp [intOf]; omega
    · have e : k = l.length := by omega
      subst e
      rw [List.take_length] at hown
      go_wp2_with fail
      obtain ⟨B, c', rfl, _, ht⟩ := lss_own hown
      go_ret
      exact ⟨B, c', rfl, ht.lss, ht.cap, ht.most, hkr⟩
theorem ls_eq (x y : Ls) : x = y ↔ x.i = y.i ∧ x.t = y.t ∧ x.u = y.u := by
  cases x; cases y; simp
theorem ls_neq (x : Ls) (W : World) : Sem.run Try.prog (binOp .neq 68 (.agg #[.int .u64 (x.i : Nat), .int .u64 (x.t : Nat), .int .u64 (x.u : Nat)]) (.agg #[.int .u64 (x.i : Nat), .int .u64 (x.t : Nat), .int .u64 (x.u : Nat)])) W = .ok (.bool false) W := by
  rw [run_neq_struct, run_equalIn_struct _ _ _ _ _ (by kernel_rfl) (by kernel_rfl)]
  simp [go_sem]
theorem clsame2_any {A B : Option Addr} {l : List Ls} {w : World} (hA : Lss w A l) (hB : Lss w B l) (hl : l.length ≤ 1000) (c d : Nat) :
    Calls Try.prog 24 #[.slice A l.length c, .slice B l.length d] w fun e w' => e = .returned (.bool true) ∧ Kept w w' := by
  have HA := Lib.hid (fun W (hW : Kept w W) => hA.kept hW)
  have HB := Lib.hid (fun W (hW : Kept w W) => hB.kept hW)
  clear hA hB
  go_enter Try.func24, Try.ntmps24
  go_wp2_with fail
  go_loopw [5] (fun t wr => ∃ (k : Nat), k ≤ l.length ∧ t = .int .i64 k ∧ Hid (Kept w wr)) (fun t _ => l.length - (intOf t).toNat)
  case atStart => exact ⟨0, Nat.zero_le _, rfl, Lib.hid (Kept.refl _)⟩
  case round =>
    obtain ⟨k, hk, rfl, HK⟩ := hrel
    by_cases hlt : k < l.length
    · have d1 : decide ((k : Int) < (l.length : Int)) = true := decide_eq_true (by omega)
      obtain ⟨x, hx⟩ : ∃ x, l[k]? = some x := ⟨_, List.getElem?_eq_getElem hlt⟩
      obtain ⟨b, o, rfl, hb, c0, c1, c2⟩ := HA.out _ HK.out k x hx
      obtain ⟨b2, o2, rfl, hb2, e0, e1, e2⟩ := HB.out _ HK.out k x hx
      have hq := ls_neq x
      generalize x.i = xi at *
      generalize x.t = xt at *
      generalize x.u = xu at *
      clear hx hb hb2
      go_wp2_with fail
      go_quiet (fail)
      go_wp2_with fail
      go_roundw
      case rel => exact ⟨k + 1, by omega, by go_num, Lib.hid (kept_trans HK.out (kept_drewN _ _))⟩
      case measure => simp [intOf]; omega
    · obtain rfl : k = l.length := by omega
      go_wp2_with fail
      go_ret
      exact ⟨rfl, HK.out⟩
end Go.Proofs.Ytdmnmbomijnjeaa
