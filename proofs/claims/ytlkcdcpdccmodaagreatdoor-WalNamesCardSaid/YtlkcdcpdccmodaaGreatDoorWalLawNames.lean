/-
  The walk of screelaw06.WalNames.
-/
import Derived.Test.YtlkcdcpdccmodaaGreatDoorWalRef
import Derived.Test.YtlkcdcpdccmodaaGreatDoorWalAwake
namespace Go.Proofs.YtlkcdcpdccmodaaGreatDoor
open Go.ChangeShapes Go.WideShapes Go.ChangeAt Go.RowKit
set_option linter.unusedVariables false
set_option maxRecDepth 100000
set_option maxHeartbeats 4000000

/-- wal.Number, by what the name says -/
theorem wnumber_of (s : ByteArray) (hs : s.size ≤ 281474976710656) (o : Option Nat) (ho : Wl.number s.data.toList = o) (x : Nat) (b : Bool) (hx : x = o.getD 0) (hb : b = o.isSome) (w : World) (hv : Vars w) :
    Calls Tryz.prog 37 #[.string s] w fun e w' => e = .returned (.tuple #[.int .u64 x, .bool b]) ∧ Kept w w' := by
  cases o with
  | none => subst hx hb; exact wnumber_none s hs ho w hv
  | some n =>
    obtain ⟨hn, e⟩ := Wl.number_iff.1 ho
    have es : s = bs (Wl.nm n) := bs_of e
    subst es hx hb
    exact wnumber_some hn w hv
/-- R.Number -/
theorem rnumber_of (s : ByteArray) (hs : s.size ≤ 1000) (o : Option Nat) (ho : Wl.number s.data.toList = o) (x : Nat) (b : Bool) (hx : x = o.getD 0) (hb : b = o.isSome) (w : World) :
    Calls Tryz.prog 38 #[.string s] w fun e w' => e = .returned (.tuple #[.int .u64 x, .bool b]) ∧ Kept w w' := by
  have hc : Calls Tryz.prog 69 #[.string s, .string ⟨#[119, 97, 108, 46]⟩] w fun e w' => e = .returned (.tuple #[.int .u64 x, .bool b]) ∧ Kept w w' := by
    have hls : s.data.toList.length = s.size := by simp
    by_cases hlen : s.size ≤ 4 ∨ 17 < s.size
    · have e := Wl.number s.data.toList
      have en := number_far (s := s.data.toList) (by rw [hls]; exact hlen)
      rw [en] at ho
      subst ho hx hb
      exact rnum_out s hs (by rcases hlen with h | h; exact .inl h; exact .inr (.inl h)) w
    · by_cases hp : Wl.pre <+: s.data.toList
      · obtain ⟨r, e⟩ := pre_split hp
        have es : s = bs (Wl.pre ++ r) := bs_of e
        have hl : s.data.toList.length = 4 + r.length := by rw [e]; simp [Wl.pre]; omega
        subst es
        rw [bs_data] at ho
        exact rnum_in r (by omega) (by omega) o ho x b hx hb w
      · have en := Wl.number_pre hp
        rw [en] at ho
        subst ho hx hb
        refine rnum_out s hs (.inr (.inr fun h => hp ?_)) w
        have h4 : (s.extract 0 4).toList = s.data.toList.take 4 := by rw [Lib.toList_data, Lib.extract_data]; simp
        rw [h4, Lib.toList_data] at h
        have : Wl.pre = s.data.toList.take 4 := h.symm
        rw [this]; exact List.take_prefix _ _
  have HC := Lib.hid hc; clear hc ho hx hb
  go_enter Tryz.func38, Tryz.ntmps38
  go_wp2_with fail
  refine HC.out.mono ?_
  rintro e w1 ⟨rfl, k1⟩
  go_wp2_with fail
  go_ret2
  exact ⟨rfl, k1⟩
theorem WalNames_walk (n0 : Int) (S : ByteArray) {w : World} (hn : (Lit.int .u64 n0).wf = true) (hS : S.size ≤ maxLen) (hv : Vars w) :
    Calls Tryz.prog 4 #[.int .u64 n0, .string S] w fun e w' => e = .returned (.bool true) ∧ Kept w w' := by
  obtain ⟨h1, h2⟩ := bounds_u64 hn
  obtain ⟨n, rfl⟩ : ∃ n : Nat, n0 = (n : Int) := ⟨n0.toNat, by omega⟩
  have H0 := Lib.hid (wawake_any w hv)
  have HV := Lib.hid hv
  unfold maxLen at hS
  by_cases hbig : 100 < S.size
  · have hb1 : (100 : Int) < (S.size : Int) := by omega
    go_enter Tryz.func4, Tryz.ntmps4
    go_wp2_with fail
    refine H0.out.mono ?_
    rintro e w1 ⟨rfl, k1⟩
    go_wp2_with fail
    go_ret
    exact ⟨rfl, k1⟩
  have hb1 : ¬ (100 : Int) < (S.size : Int) := by omega
  obtain ⟨o, ho⟩ : ∃ o, Wl.number S.data.toList = o := ⟨_, rfl⟩
  obtain ⟨x, hx⟩ : ∃ x, x = o.getD 0 := ⟨_, rfl⟩
  obtain ⟨b, hb⟩ : ∃ b, b = o.isSome := ⟨_, rfl⟩
  have HA := Lib.hid (fun W (k : Kept w W) => wnumber_of S (by omega) o ho x b hx hb W (hv.kept k))
  have HB := Lib.hid (fun W => rnumber_of S (by omega) o ho x b hx hb W)
  have HN := Lib.hid (fun W (k : Kept w W) => wname_any n (by omega) W (hv.kept k))
  have HR := Lib.hid (fun W => rname_any n (by omega) W)
  -- the number that the name of n says
  obtain ⟨y, c, hy, hc⟩ : ∃ (y : Nat) (c : Bool), (c = decide (n ≤ 1099511627776)) ∧ ∀ W, Kept w W → Calls Tryz.prog 37 #[.string (bs (Wl.name n))] W fun e w' => e = .returned (.tuple #[.int .u64 y, .bool c]) ∧ Kept W w' ∧ (c = true → y = n) := by
    by_cases h : n ≤ 1099511627776
    · refine ⟨n, true, (decide_eq_true h).symm, fun W k => ?_⟩
      rw [Wl.name_nm h]
      exact (wnumber_some h W (hv.kept k)).mono fun e w' ⟨he, hk⟩ => ⟨he, hk, fun _ => rfl⟩
    · refine ⟨0, false, (decide_eq_false h).symm, fun W k => ?_⟩
      have e : Wl.name n = [] := if_neg h
      rw [e]
      exact (wnumber_none (bs []) (by simp [bs, ByteArray.size]) (show Wl.number [] = none from number_far (.inl (by decide))) W (hv.kept k)).mono fun e w' ⟨he, hk⟩ => ⟨he, hk, fun h => by cases h⟩
  have HC := Lib.hid hc
  have hci : decide ((n : Int) ≤ 1099511627776) = c := by rw [hy, Bool.eq_iff_iff]; simp; omega
  clear hc ho hx hb hv hy
  generalize bs (Wl.name n) = D at *
  go_enter Tryz.func4, Tryz.ntmps4
  go_wp2_with fail
  refine H0.out.mono ?_
  rintro e w1 ⟨rfl, k1⟩
  go_wp2_with fail
  refine (HA.out w1 k1).mono ?_
  rintro e w2 ⟨rfl, k2⟩
  go_wp2_with fail
  refine (HB.out w2).mono ?_
  rintro e w3 ⟨rfl, k3⟩
  have kw3 := kept_trans k1 (kept_trans k2 k3)
  go_wp2_with fail
  refine (HN.out w3 kw3).mono ?_
  rintro e w4 ⟨rfl, k4⟩
  have kw4 := kept_trans kw3 k4
  go_wp2_with fail
  refine (HC.out w4 kw4).mono ?_
  rintro e w5 ⟨rfl, k5, hyc⟩
  have kw5 := kept_trans kw4 k5
  go_wp2_with fail
  refine (HN.out w5 kw5).mono ?_
  rintro e w6 ⟨rfl, k6⟩
  have kw6 := kept_trans kw5 k6
  go_wp2_with fail
  refine (HR.out w6).mono ?_
  rintro e w7 ⟨rfl, k7⟩
  have kw7 := kept_trans kw6 k7
  clear HA HB HN HR HC H0
  cases c with
  | true =>
    obtain rfl := hyc rfl
    have i9 : (y : Int) ≤ 1099511627776 := by simpa using hci
    go_wp2_with fail
    go_ret
    exact ⟨rfl, kw7⟩
  | false =>
    have i9 : ¬ (n : Int) ≤ 1099511627776 := by simpa using hci
    go_wp2_with fail
    go_ret
    exact ⟨rfl, kw7⟩
end Go.Proofs.YtlkcdcpdccmodaaGreatDoor
