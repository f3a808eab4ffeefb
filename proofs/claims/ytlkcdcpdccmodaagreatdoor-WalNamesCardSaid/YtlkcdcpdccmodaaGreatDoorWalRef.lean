/-
  The document's own functions of layer 6 on names: Digits, Name, Numbered, Number.
-/
import Derived.Test.YtlkcdcpdccmodaaGreatDoorWalName
import Derived.Test.YtlkcdcpdccmodaaGreatDoorFrameRef
namespace Go.Proofs.YtlkcdcpdccmodaaGreatDoor
open Go.ChangeShapes Go.WideShapes Go.ChangeAt Go.RowKit
set_option linter.unusedVariables false
set_option maxRecDepth 100000
set_option maxHeartbeats 4000000

set_option maxHeartbeats 8000000 in
theorem rdigits_any (n : Nat) : n ≤ 18446744073709551615 → ∀ w : World, Calls Tryz.prog 71 #[.int .u64 n] w fun e w' => e = .returned (.string (bs (Lib.decDigits n))) ∧ Kept w w' := by
  induction n using Nat.strongRecOn with
  | _ n ih =>
    intro hn w
    by_cases h : n < 10
    · have h1 : (n : Int) < 10 := by omega
      have hw1 : IntKind.u64.wrap (48 + (n : Int)) = 48 + (n : Int) := by rw [IntKind.wrap_u64]; omega
      have hw2 : IntKind.u8.wrap (48 + (n : Int)) = ((UInt8.ofNat (48 + n)).toNat : Int) := by rw [Wl.digit_toNat h, IntKind.wrap_u8]; omega
      have hcv := conv_one (UInt8.ofNat (48 + n))
      rw [Lib.decDigits_one h]
      generalize UInt8.ofNat (48 + n) = c at *
      go_enter Tryz.func71, Tryz.ntmps71
      go_wp2_with fail
      go_ret
      exact ⟨rfl, (Kept.refl w).alloc _⟩
    · have h1 : ¬ (n : Int) < 10 := by omega
      have hc := ih (n / 10) (by omega) (by omega)
      have HC := Lib.hid hc; clear hc ih
      have hq1 : IntKind.u64.wrap ((n : Int) / 10) = ((n / 10 : Nat) : Int) := by rw [IntKind.wrap_u64]; omega
      have hq2 : (n : Int).tmod 10 = ((n % 10 : Nat) : Int) := by rw [Int.tmod_eq_emod_of_nonneg (by omega)]; omega
      have hq3 : (n : Int) % 10 = ((n % 10 : Nat) : Int) := by omega
      have hw1 : IntKind.u64.wrap (48 + ((n % 10 : Nat) : Int)) = 48 + ((n % 10 : Nat) : Int) := by rw [IntKind.wrap_u64]; omega
      have hw2 : IntKind.u8.wrap (48 + ((n % 10 : Nat) : Int)) = ((UInt8.ofNat (48 + n % 10)).toNat : Int) := by rw [Wl.digit_toNat (show n % 10 < 10 by omega), IntKind.wrap_u8]; omega
      have hcv := conv_one (UInt8.ofNat (48 + n % 10))
      have hlen : (Lib.decDigits (n / 10)).length ≤ 20 := by
        rw [Lib.decDigits_length]
        by_cases h0 : n / 10 = 0
        · rw [h0, Lib.nDigits_small (by omega)]; omega
        · have := Lib.numDigits_eq (n / 10) (by omega) (by omega); split at this <;> omega
      have hs2 : (bs (Lib.decDigits (n / 10))).size = (Lib.decDigits (n / 10)).length := by simp [bs, ByteArray.size]
      have hs3 : (bs [UInt8.ofNat (48 + n % 10)]).size = 1 := by simp [bs, ByteArray.size]
      have hfit : ¬ 9223372036854775807 < (bs (Lib.decDigits (n / 10))).size + (bs [UInt8.ofNat (48 + n % 10)]).size := by omega
      have hsum := bs_app2 (Lib.decDigits (n / 10)) [UInt8.ofNat (48 + n % 10)]
      rw [← Wl.digits_big h] at hsum
      have HE := Lib.hid hsum; clear hsum hs2 hs3 hlen
      generalize bs (Lib.decDigits n) = D at *
      generalize bs (Lib.decDigits (n / 10)) = E at *
      generalize UInt8.ofNat (48 + n % 10) = c at *
      generalize n / 10 = q at *
      generalize n % 10 = r at *
      go_enter Tryz.func71, Tryz.ntmps71
      go_wp2_with fail
      clear h1 h hn
      go_region_with (go_at_call 71; refine (HC.out _).mono ?_; rintro e w1 ⟨rfl, g1⟩; have q9 := kc1 ⟨w.heap.size, 0, none⟩ (.int .u8 ((c.toNat : Nat) : Int)) g1; try simp at q9)
      all_goals
        clear hcv q9 hq1 hq2 hq3 hw1 hw2
        go_wp2_with fail
        go_ret
        refine ⟨by rw [← HE.out]; rfl, ?_⟩
        first
          | exact kept_trans (kept_of_drew g1) ((Kept.refl _).alloc _)
          | exact kept_trans ((kept_of_drew (Kept.refl w.drew)).alloc _) g1
          | exact kept_of_drew (kept_trans g1 ((Kept.refl _).alloc _))
/-- R.Name -/
theorem rname_any (n : Nat) (h64 : n ≤ 18446744073709551615) (w : World) :
    Calls Tryz.prog 40 #[.int .u64 n] w fun e w' => e = .returned (.string (bs (Wl.name n))) ∧ Kept w w' := by
  have HC := Lib.hid (rdigits_any n h64 w)
  unfold Wl.name
  by_cases h : n ≤ 1099511627776
  · have h1 : ¬ (1099511627776 : Int) < (n : Int) := by omega
    have hl := (Wl.digits_len h).2
    have hs : (bs (Lib.decDigits n)).size = (Lib.decDigits n).length := by simp [bs, ByteArray.size]
    have hl2 : ¬ 9223372036854775807 < 4 + (bs (Lib.decDigits n)).size := by omega
    have he : (⟨#[119, 97, 108, 46]⟩ : ByteArray) ++ bs (Lib.decDigits n) = bs (Wl.nm n) := bs_pre _
    have HE := Lib.hid he; clear he hs
    rw [if_pos h]
    generalize bs (Lib.decDigits n) = D at *
    go_enter Tryz.func40, Tryz.ntmps40
    go_wp2_with fail
    refine HC.out.mono ?_
    rintro e w' ⟨rfl, hk⟩
    go_wp2_with fail
    go_ret
    exact ⟨by rw [← HE.out]; rfl, hk⟩
  · have h1 : (1099511627776 : Int) < (n : Int) := by omega
    rw [if_neg h]
    go_enter Tryz.func40, Tryz.ntmps40
    go_wp2_with fail
    go_ret
    exact ⟨rfl, Kept.refl w⟩
/-- R.Numbered, where the name begins otherwise or is of another length -/
theorem rnum_out (s : ByteArray) (hs : s.size ≤ 1000) (h : s.size ≤ 4 ∨ 17 < s.size ∨ (s.extract 0 4).toList ≠ (⟨#[119, 97, 108, 46]⟩ : ByteArray).toList) (w : World) :
    Calls Tryz.prog 69 #[.string s, .string ⟨#[119, 97, 108, 46]⟩] w fun e w' => e = .returned (.tuple #[.int .u64 0, .bool false]) ∧ Kept w w' := by
  have h4 : (⟨#[119, 97, 108, 46]⟩ : ByteArray).size = 4 := rfl
  by_cases h1 : s.size ≤ 4
  · have i1 : (s.size : Int) ≤ 4 := by omega
    go_enter Tryz.func69, Tryz.ntmps69
    go_wp2_with fail
    go_ret2
    exact ⟨rfl, Kept.refl _⟩
  · have i1 : ¬ (s.size : Int) ≤ 4 := by omega
    by_cases h2 : 17 < s.size
    · have i2 : (17 : Int) < (s.size : Int) := by omega
      go_enter Tryz.func69, Tryz.ntmps69
      go_wp2_with fail
      go_ret2
      exact ⟨rfl, Kept.refl _⟩
    · have i2 : ¬ (17 : Int) < (s.size : Int) := by omega
      have hne : (s.extract 0 4).toList ≠ (⟨#[119, 97, 108, 46]⟩ : ByteArray).toList := by
        rcases h with h | h | h
        · exact absurd h h1
        · exact absurd h h2
        · exact h
      have d1 : ((s.extract 0 4).toList == [119, 97, 108, 46]) = false := by
        have e0 : (⟨#[119, 97, 108, 46]⟩ : ByteArray).toList = [119, 97, 108, 46] := by rw [Lib.toList_data]
        rw [← e0]; simpa using hne
      go_enter Tryz.func69, Tryz.ntmps69
      go_wp2_with fail
      go_ret2
      exact ⟨rfl, Kept.refl _⟩

theorem dec_snoc (l : List UInt8) (c : UInt8) : Wl.dec (l ++ [c]) = Wl.dec l * 10 + (c.toNat - 48) := by simp [Wl.dec]
theorem dec_lt : ∀ (k : Nat) (l : List UInt8), l.length = k → (∀ c ∈ l, 48 ≤ c.toNat ∧ c.toNat ≤ 57) → Wl.dec l < 10 ^ k := by
  intro k
  induction k with
  | zero => intro l hl _; have : l = [] := List.eq_nil_of_length_eq_zero hl; subst this; simp [Wl.dec]
  | succ k ih =>
    intro l hl hd
    rcases List.eq_nil_or_concat l with rfl | ⟨m, c, rfl⟩
    · simp at hl
    · have h1 := ih m (by simpa using hl) (fun x hx => hd x (by simp [hx]))
      have h2 := hd c (by simp)
      rw [List.concat_eq_append, dec_snoc, Nat.pow_succ]
      omega
theorem number_notdigit {r : List UInt8} {c : UInt8} (hc : c ∈ r) (h : ¬ (48 ≤ c.toNat ∧ c.toNat ≤ 57)) : Wl.number (Wl.pre ++ r) = none := by
  cases e : Wl.number (Wl.pre ++ r) with
  | none => rfl
  | some n =>
    obtain ⟨_, e'⟩ := Wl.number_iff.1 e
    have : r = Lib.decDigits n := List.append_cancel_left e'
    subst this
    exact absurd (Wl.digits_each n c hc) h
theorem number_far {s : List UInt8} (h : s.length ≤ 4 ∨ 17 < s.length) : Wl.number s = none := by
  cases e : Wl.number s with
  | none => rfl
  | some n =>
    obtain ⟨hn, rfl⟩ := Wl.number_iff.1 e
    have := Wl.nm_len hn
    omega
/-- R.Numbered, where the name begins as it should -/
theorem rnum_in (r : List UInt8) (h1 : 1 ≤ r.length) (h2 : r.length ≤ 13) (o : Option Nat) (ho : Wl.number (Wl.pre ++ r) = o) (x : Nat) (b : Bool) (hx : x = o.getD 0) (hb : b = o.isSome) (w : World) :
    Calls Tryz.prog 69 #[.string (bs (Wl.pre ++ r)), .string ⟨#[119, 97, 108, 46]⟩] w fun e w' => e = .returned (.tuple #[.int .u64 x, .bool b]) ∧ Kept w w' := by
  have hsz : (bs (Wl.pre ++ r)).size = 4 + r.length := by simp [bs, ByteArray.size, Wl.pre]; omega
  have i1 : ¬ ((bs (Wl.pre ++ r)).size : Int) ≤ 4 := by omega
  have i2 : ¬ (17 : Int) < ((bs (Wl.pre ++ r)).size : Int) := by omega
  have d1 : (((bs (Wl.pre ++ r)).extract 0 4).toList == [119, 97, 108, 46]) = true := by
    have e : (bs (Wl.pre ++ r)).extract 0 4 = bs Wl.pre := bs_of (by rw [Lib.extract_data]; simp [bs, Wl.pre])
    rw [e, wbs_toList]; rfl
  have hget : ∀ (k : Nat) (c : UInt8), r[k]? = some c → (bs (Wl.pre ++ r)).data.toList[4 + k]? = some c := fun k c hk => by
    rw [bs_data, List.getElem?_append_right (by simp [Wl.pre])]
    simpa [Wl.pre] using hk
  have HG := Lib.hid hget
  have HO := Lib.hid ho
  have HXE := Lib.hid hx; have HBE := Lib.hid hb
  have HBS : Hid (bs (Wl.pre ++ r) = bs (Wl.pre ++ r)) := Lib.hid rfl
  have hsi : ((bs (Wl.pre ++ r)).size : Int) = 4 + (r.length : Int) := by omega
  have HSI := Lib.hid hsi
  clear hget ho hx hb hsz hsi
  generalize hS : bs (Wl.pre ++ r) = S at *
  have HS := Lib.hid hS; clear hS HBS
  go_enter Tryz.func69, Tryz.ntmps69
  go_wp2_with fail
  go_loopw [7, 8] (fun a t wr => ∃ (k : Nat), k ≤ r.length ∧ a = .int .u64 ((Wl.dec (r.take k) : Nat) : Int) ∧ t = .int .i64 (4 + (k : Int)) ∧ Hid (∀ c ∈ r.take k, 48 ≤ c.toNat ∧ c.toNat ≤ 57) ∧ w = wr) (fun _ t _ => r.length + 4 - (intOf t).toNat)
  case atStart => exact ⟨0, by omega, by simp [Wl.dec], by simp, Lib.hid (by simp), rfl⟩
  case round =>
    obtain ⟨k, hk, rfl, rfl, HD, rfl⟩ := hrel
    by_cases hlt : k < r.length
    · have hc : r[k]? = some r[k] := List.getElem?_eq_getElem hlt
      have hmem : r[k] ∈ r := List.getElem_mem hlt
      have hdl := dec_lt k (r.take k) (by rw [List.length_take]; omega) HD.out
      have hp : 10 ^ k ≤ 10 ^ 13 := Nat.pow_le_pow_right (by decide) (by omega)
      have htk : r.take (k + 1) = r.take k ++ [r[k]] := by rw [List.take_add_one, hc]; rfl
      have hds : Wl.dec (r.take (k + 1)) = Wl.dec (r.take k) * 10 + (r[k].toNat - 48) := by rw [htk, dec_snoc]
      have hcS := HG.out k _ hc
      generalize r[k] = c at *
      have i3 : 4 + (k : Int) < (S.size : Int) := by rw [HSI.out]; omega
      have hlt4 : 4 + k < S.size := by omega
      have hSk : S[4 + k] = c := by
        have e : S[4 + k] = S.data.toList[4 + k]'(by simpa using hlt4) := rfl
        rw [e]
        exact (List.getElem?_eq_some_iff.1 hcS).2
      have hno : (¬ (48 ≤ c.toNat ∧ c.toNat ≤ 57)) → x = 0 ∧ b = false := fun hn => by
        have e := number_notdigit hmem hn
        have eo := HO.out
        rw [e] at eo
        rw [HXE.out, HBE.out, ← eo]; exact ⟨rfl, rfl⟩
      have HNO := Lib.hid hno
      have HDS := Lib.hid hds
      have HTK := Lib.hid htk
      clear hno hds htk hcS hmem hc
      by_cases hd : 48 ≤ c.toNat ∧ c.toNat ≤ 57
      · have i4 : ¬ (S[4 + k].toNat : Int) < 48 := by rw [hSk]; omega
        have i5 : ¬ (57 : Int) < (S[4 + k].toNat : Int) := by rw [hSk]; omega
        have HSK := Lib.hid hSk; clear hSk
        have hp13 : (10 : Nat) ^ 13 = 10000000000000 := by decide
        rw [hp13] at hp
        go_wp2_with fail
        refine ⟨⟨k + 1, by omega, ?_, by rw [show (4 + (k : Int) + 1) = 4 + ((k + 1 : Nat) : Int) by omega], Lib.hid ?_, trivial⟩, by simp [intOf]; omega⟩
        · rw [HDS.out, HSK.out]
          congr 1
          omega
        · rw [HTK.out]
          intro y hy
          rcases List.mem_append.1 hy with hy | hy
          · exact HD.out y hy
          · simp at hy; subst hy; exact hd
      · obtain ⟨rfl, rfl⟩ := HNO.out hd
        by_cases h48 : c.toNat < 48
        · have i4 : (S[4 + k].toNat : Int) < 48 := by rw [hSk]; omega
          clear hSk
          go_wp2_with fail
          go_ret2
          exact ⟨rfl, Kept.refl _⟩
        · have i4 : ¬ (S[4 + k].toNat : Int) < 48 := by rw [hSk]; omega
          have i5 : (57 : Int) < (S[4 + k].toNat : Int) := by rw [hSk]; omega
          clear hSk
          go_wp2_with fail
          go_ret2
          exact ⟨rfl, Kept.refl _⟩
    · have ek : k = r.length := by omega
      subst ek
      have hdl := dec_lt r.length (r.take r.length) (by simp) HD.out
      have hp : 10 ^ r.length ≤ 10 ^ 13 := Nat.pow_le_pow_right (by decide) (by omega)
      have hp13 : (10 : Nat) ^ 13 = 10000000000000 := by decide
      rw [hp13] at hp
      rw [List.take_length] at hdl
      have hnum : Wl.number (Wl.pre ++ r) = if Wl.dec r ≤ 1099511627776 ∧ Wl.nm (Wl.dec r) = Wl.pre ++ r then some (Wl.dec r) else none := rfl
      have HNUM := Lib.hid hnum; clear hnum
      have i3 : ¬ 4 + (r.length : Int) < (S.size : Int) := by rw [HSI.out]; omega
      have HDG := Lib.hid (rdigits_any (Wl.dec r) (by omega) w)
      have hlen : (Lib.decDigits (Wl.dec r)).length ≤ 20 := by
        rw [Lib.decDigits_length]
        by_cases h0 : Wl.dec r = 0
        · rw [h0, Lib.nDigits_small (by omega)]; omega
        · have := Lib.numDigits_eq (Wl.dec r) (by omega) (by omega); split at this <;> omega
      have hds : (bs (Lib.decDigits (Wl.dec r))).size = (Lib.decDigits (Wl.dec r)).length := by simp [bs, ByteArray.size]
      have hl2 : ¬ 9223372036854775807 < 4 + (bs (Lib.decDigits (Wl.dec r))).size := by omega
      have he : (⟨#[119, 97, 108, 46]⟩ : ByteArray) ++ bs (Lib.decDigits (Wl.dec r)) = bs (Wl.nm (Wl.dec r)) := bs_pre _
      have hcmp : ((⟨#[119, 97, 108, 46]⟩ : ByteArray) ++ bs (Lib.decDigits (Wl.dec r))).toList = Wl.nm (Wl.dec r) := by rw [he, wbs_toList]
      have hSt : S.toList = Wl.pre ++ r := by rw [← HS.out, wbs_toList]
      rw [List.take_length]
      by_cases hbig : Wl.dec r ≤ 1099511627776
      · have i5 : ¬ (1099511627776 : Int) < ((Wl.dec r : Nat) : Int) := by omega
        by_cases heq : Wl.nm (Wl.dec r) = Wl.pre ++ r
        · have hxb : x = Wl.dec r ∧ b = true := by
            have eo := HO.out
            rw [HNUM.out, if_pos ⟨hbig, heq⟩] at eo
            rw [HXE.out, HBE.out, ← eo]; exact ⟨rfl, rfl⟩
          obtain ⟨rfl, rfl⟩ := hxb
          have d2 : (((⟨#[119, 97, 108, 46]⟩ : ByteArray) ++ bs (Lib.decDigits (Wl.dec r))).toList == S.toList) = true := by rw [hcmp, hSt]; simpa using heq
          clear hcmp hSt he hds hlen
          generalize bs (Lib.decDigits (Wl.dec r)) = D at *
          go_wp2_with fail
          refine HDG.out.mono ?_
          rintro e w5 ⟨rfl, k5⟩
          go_wp2_with fail
          go_ret2
          exact ⟨rfl, k5⟩
        · have hxb : x = 0 ∧ b = false := by
            have eo := HO.out
            rw [HNUM.out, if_neg (fun h => heq h.2)] at eo
            rw [HXE.out, HBE.out, ← eo]; exact ⟨rfl, rfl⟩
          obtain ⟨rfl, rfl⟩ := hxb
          have d2 : (((⟨#[119, 97, 108, 46]⟩ : ByteArray) ++ bs (Lib.decDigits (Wl.dec r))).toList == S.toList) = false := by rw [hcmp, hSt]; simpa using heq
          clear hcmp hSt he hds hlen
          generalize bs (Lib.decDigits (Wl.dec r)) = D at *
          go_wp2_with fail
          refine HDG.out.mono ?_
          rintro e w5 ⟨rfl, k5⟩
          go_wp2_with fail
          go_ret2
          exact ⟨rfl, k5⟩
      · have i5 : (1099511627776 : Int) < ((Wl.dec r : Nat) : Int) := by omega
        have hxb : x = 0 ∧ b = false := by
          have eo := HO.out
          rw [HNUM.out, if_neg (fun h => hbig h.1)] at eo
          rw [HXE.out, HBE.out, ← eo]; exact ⟨rfl, rfl⟩
        obtain ⟨rfl, rfl⟩ := hxb
        clear hcmp hSt he hds hlen
        go_wp2_with fail
        go_ret2
        exact ⟨rfl, Kept.refl _⟩
end Go.Proofs.YtlkcdcpdccmodaaGreatDoor
