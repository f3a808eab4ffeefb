/-
  The walk of screelaw09.BlockShort.
-/
import Derived.Test.YtpnabojfliphpaaBlockArgs
namespace Go.Proofs.Ytpnabojfliphpaa
open Go.ChangeShapes Go.WideShapes Go.ChangeAt Go.RowKit
set_option linter.unusedVariables false
set_option maxRecDepth 100000
set_option maxHeartbeats 4000000

theorem kshared_m (a b : List UInt8) (ha : a.length ≤ maxLen) (hb : b.length ≤ maxLen) (W : World) (n : Nat) :
    Calls Try.prog 18 #[.string (bs a), .string (bs b)] (W.drewN n) fun e w' => e = .returned (.int .i64 (Bk.sh a b : Nat)) ∧ ∃ q, w' = W.drewN q :=
  (kshared_q a b ha hb (W.drewN n)).mono fun e w' ⟨h1, q, h2⟩ => ⟨h1, by rw [h2]; exact drew_more ⟨n, rfl⟩ q⟩
/-- what has been counted where k entries have been gone through: values, keys, shared -/
def Cnt (l : List Mm.Ent) (k v y h : Nat) : Prop := v + y ≤ (Bk.E l k).length + h ∧ (Bk.E l k).length + h ≤ v + y + 10 * k ∧ h ≤ y ∧ v ≤ 100 * k ∧ y ≤ 100 * k
theorem Cnt.step {l : List Mm.Ent} {k v y h : Nat} (c : Cnt l k v y h) {x : Mm.Ent} (hx : l[k]? = some x) (hm : Mm.may x = true) {n : Nat} (hn : n = Bk.shr l k) : Cnt l (k + 1) (v + x.val.length) (y + x.key.length) (h + n) := by
  have h1 := Bk.shr_le hx
  have h2 := Bk.encE_len hm h1
  obtain ⟨k1, k2, k3, _⟩ := Mm.may_iff.1 hm
  unfold Cnt at *
  rw [Bk.E_succ, Bk.piece_is hx, List.length_append]
  omega
theorem shr_zero {l : List Mm.Ent} {k : Nat} (h : k % 4 = 0) : Bk.shr l k = 0 := by unfold Bk.shr; rw [if_pos h]
theorem shr_two {l : List Mm.Ent} {j : Nat} {x y : Mm.Ent} (h : (j + 1) % 4 ≠ 0) (hx : l[j]? = some x) (hy : l[j + 1]? = some y) : Bk.shr l (j + 1) = Bk.sh x.key y.key := by
  unfold Bk.shr
  rw [if_neg h, Nat.add_sub_cancel, Bk.keyAt_some hx, Bk.keyAt_some hy]
theorem BlockShort_walk (A : Option Addr) (cap : Nat) (l : List Mm.Ent) {w : World} (ha : Els w A l) (hl : l.length ≤ cap ∧ cap ≤ maxLen ∧ OkEs l) :
    Calls Try.prog 7 #[.slice A l.length cap] w fun e w' => e = .returned (.bool true) ∧ Kept w w' := by
  obtain ⟨hc, hm, ho⟩ := hl
  have HE := Lib.hid ha; have HO := Lib.hid ho
  have hlm : l.length ≤ maxLen := by omega
  have HLG := Lib.hid (fun W (h : Els W A l) => klarge_any cap h hlm ho)
  clear ha
  go_enter Try.func7, Try.ntmps7
  go_wp2_with fail
  refine (kawake_any w).mono ?_
  rintro e w1 ⟨rfl, g1⟩
  go_wp2_with fail
  refine (HLG.out _ (HE.out.kept g1)).mono ?_
  rintro e w2 ⟨B, rfl, g2, hB⟩
  have G2 := Lib.hid (kept_trans g1 g2)
  have HB := Lib.hid hB
  clear g1 g2 hB HLG
  cases B with
  | true =>
    go_wp2_with fail
    go_ret
    exact ⟨rfl, G2.out⟩
  | false =>
    obtain ⟨h60, _⟩ := HB.out rfl
    cases hb : Bk.isB l with
    | false =>
      have HEN := Lib.hid (kencode_no cap (HE.out.kept G2.out) hlm (es_el HO.out) hb)
      clear hb
      go_wp2_with fail
      refine HEN.out.mono ?_
      rintro e w3 ⟨rfl, g3⟩
      go_wp2_with fail
      go_ret
      exact ⟨rfl, kept_trans G2.out g3⟩
    | true =>
      have HEN := Lib.hid (kencode_ok cap (HE.out.kept G2.out) hb)
      have hl1 := (Bk.isB_iff.1 hb).1
      have hl32 := (Bk.isB_iff.1 hb).2.1
      have HALL := Lib.hid (Bk.isB_iff.1 hb).2.2.1
      have hsz : (bs (Bk.enc l)).size = (Bk.E l l.length).length + 8 * ((l.length + 3) / 4) + 8 := by
        rw [fbs_size]
        unfold Bk.enc
        rw [List.length_append, List.length_append, Bk.P_len, Nm.long_len]
        omega
      have hsz2 : (bs (Bk.enc l)).size ≤ 7000 := by rw [fbs_size]; exact Bk.enc_len hb
      have HSZ := Lib.hid hsz
      generalize Bk.enc l = E at *
      clear hb hsz
      go_wp2_with fail
      refine HEN.out.mono ?_
      rintro e w3 ⟨rfl, g3⟩
      have G3 := Lib.hid (kept_trans G2.out g3)
      clear g3 HEN
      go_wp2_with fail
      go_loopw [5, 6, 7, 22] (fun a b c t wr => ∃ k v y h : Nat, k ≤ l.length ∧ t = .int .i64 k ∧ a = .int .i64 v ∧ b = .int .i64 y ∧ c = .int .i64 h ∧ Hid (Cnt l k v y h) ∧ v ≤ 100 * k ∧ y ≤ 100 * k ∧ h ≤ y ∧ Hid (Kept w3 wr)) (fun _ _ _ t _ => l.length - (intOf t).toNat)
      case atStart => exact ⟨0, 0, 0, 0, Nat.zero_le _, rfl, rfl, rfl, rfl, Lib.hid (by unfold Cnt; simp [Bk.E]), by omega, by omega, by omega, Lib.hid (Kept.refl _)⟩
      case round =>
        obtain ⟨k, v, y, h, hk, rfl, rfl, rfl, rfl, HC, hv, hy, hh, HK⟩ := hrel
        by_cases hlt : k < l.length
        · obtain ⟨x, hx⟩ : ∃ x, l[k]? = some x := ⟨_, List.getElem?_eq_getElem hlt⟩
          have hmay := HALL.out x (List.mem_of_getElem? hx)
          obtain ⟨_, m2, m3, _⟩ := Mm.may_iff.1 hmay
          have hEl := HE.out.kept (kept_trans G3.out HK.out)
          obtain ⟨b, o, rfl, hb, c0, c1, c2, c3⟩ := hEl k x hx
          have zk := fbs_size x.key; have zv := fbs_size x.val
          have zk1 : (bs x.key).size ≤ 100 := by omega
          have zv1 : (bs x.val).size ≤ 100 := by omega
          have HZK := Lib.hid zk; have HZV := Lib.hid zv
          clear zk zv
          by_cases h4 : k % 4 = 0
          · have d1 : decide ((0 : Int) < (k : Int) % 4) = false := decide_eq_false (by omega)
            have HN := Lib.hid (HC.out.step hx hmay (shr_zero h4).symm)
            have hb2 := HN.out
            unfold Cnt at hb2
            have hx2 : x.val.length = (bs x.val).size := HZV.out.symm
            have hx3 : x.key.length = (bs x.key).size := HZK.out.symm
            have q1 : v + x.val.length ≤ 100 * (k + 1) := by omega
            have q2 : y + x.key.length ≤ 100 * (k + 1) := by omega
            have q3 : h + 0 ≤ y + x.key.length := by omega
            have HQ := Lib.hid (And.intro q1 (And.intro q2 q3))
            have HV2 := Lib.hid hx2; have HK2 := Lib.hid hx3
            clear hx hmay hb2 q1 q2 q3 hx2 hx3 m2 m3 h4
            go_wp2_with fail
            go_roundw
            case rel => exact ⟨k + 1, v + x.val.length, y + x.key.length, h + 0, by omega, by go_num, by rw [HV2.out]; go_num, by rw [HK2.out]; go_num, rfl, HN, HQ.out.1, HQ.out.2.1, HQ.out.2.2, HK⟩
            case measure => simp [intOf]; omega
          · have d1 : decide ((0 : Int) < (k : Int) % 4) = true := decide_eq_true (by omega)
            obtain ⟨j, hj⟩ : ∃ j, j + 1 = k := ⟨k - 1, by omega⟩
            have hjl : j < l.length := by omega
            obtain ⟨z, hz⟩ : ∃ z, l[j]? = some z := ⟨_, List.getElem?_eq_getElem hjl⟩
            have hmz := (Mm.may_iff.1 (HALL.out z (List.mem_of_getElem? hz))).2.1
            obtain ⟨b', o', eA, _, y0, _, _, _⟩ := hEl j z hz
            cases eA
            have hs2 : Bk.sh z.key x.key = Bk.shr l k := by
              have := shr_two (l := l) (j := j) (x := z) (y := x) (by omega) hz (by rw [hj]; exact hx)
              rw [hj] at this; exact this.symm
            have HN := Lib.hid (HC.out.step hx hmay hs2)
            have HSH := Lib.hid (kshared_m z.key x.key (by unfold maxLen; omega) (by unfold maxLen; omega) wr)
            have hsl := (Bk.sh_le z.key x.key).2
            generalize Bk.sh z.key x.key = n at *
            have hb2 := HN.out
            unfold Cnt at hb2
            have hx2 : x.val.length = (bs x.val).size := HZV.out.symm
            have hx3 : x.key.length = (bs x.key).size := HZK.out.symm
            have q1 : v + x.val.length ≤ 100 * (k + 1) := by omega
            have q2 : y + x.key.length ≤ 100 * (k + 1) := by omega
            have q3 : h + n ≤ y + x.key.length := by omega
            have HQ := Lib.hid (And.intro q1 (And.intro q2 q3))
            have HV2 := Lib.hid hx2; have HK2 := Lib.hid hx3
            have u1 : (k : Int) - 1 = (j : Int) := by omega
            have u2 : IntKind.i64.wrap (j : Int) = (j : Int) := wrap_nat (by omega)
            have u3 : IntKind.i64.wrap ((h : Int) + (n : Int)) = (h : Int) + (n : Int) := by rw [IntKind.wrap_i64]; omega
            have HJ := Lib.hid hj
            clear hx hz hmay hb2 q1 q2 q3 hx2 hx3 m2 m3 h4 hj hs2 hmz
            go_wp2_with fail
            go_quiet ((go_at_call 18; exact HSH.out _))
            go_wp2_with fail
            go_roundw
            case rel => exact ⟨k + 1, v + x.val.length, y + x.key.length, h + n, by omega, by go_num, by rw [HV2.out]; go_num, by rw [HK2.out]; go_num, by go_num, HN, HQ.out.1, HQ.out.2.1, HQ.out.2.2, Lib.hid (kept_trans HK.out (kept_drewN _ _))⟩
            case measure => simp [intOf]; omega
        · have e : k = l.length := by omega
          subst e
          have hC := HC.out
          unfold Cnt at hC
          have hS := HSZ.out
          have d1 : decide ((v : Int) + (y : Int) - (h : Int) ≤ ((bs E).size : Int)) = true := decide_eq_true (by omega)
          have d2 : decide (((bs E).size : Int) ≤ (v : Int) + (y : Int) - (h : Int) + 30 * (l.length : Int) + 16) = true := decide_eq_true (by omega)
          clear hC hS
          go_wp2_with fail
          go_ret
          exact ⟨rfl, kept_trans G3.out HK.out⟩
end Go.Proofs.Ytpnabojfliphpaa
