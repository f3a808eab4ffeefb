/-
  What the document's own table of layer 7 tells, continued: may an entry be, what is got, how many bytes, how long a search is.
-/
import Derived.Test.YtpbhbgoaaephgaaMemRef
namespace Go.Proofs.Ytpbhbgoaaephgaa
open Go.ChangeShapes Go.WideShapes Go.ChangeAt Go.RowKit
set_option linter.unusedVariables false
set_option maxRecDepth 100000
set_option maxHeartbeats 1000000

def entObjR (x : Mm.Ent) : Obj := .cells #[.string (bs x.key), .int .u64 (x.seq : Nat), .bool x.del, .string (bs x.val)] 51
theorem rmmay_any (x : Mm.Ent) (hk : x.key.length ≤ maxLen) (hv : x.val.length ≤ maxLen) (w : World) :
    Calls Try.prog 61 #[entV x] w fun e w' => e = .returned (.bool (Mm.may x)) ∧ Kept w w' := by
  obtain ⟨k, s, d, v⟩ := x
  unfold maxLen at hk hv
  have e1 := mbs_size k
  have e2 := mbs_size v
  simp only at hk hv
  unfold entV
  by_cases h1 : k.length < 1
  · rw [mmay_no (fun c => by have := c.1; simp only at this; omega)]
    have d1 : decide ((1 : Int) ≤ ((bs k).size : Int)) = false := by rw [e1]; simp; omega
    have n1 : (bs k).size < 1 := by omega
    clear e1 e2
    go_enter Try.func61, Try.ntmps61
    go_wp2_with fail
    go_ret
    exact ⟨rfl, (Kept.refl _).alloc _⟩
  · have d1 : decide ((1 : Int) ≤ ((bs k).size : Int)) = true := by rw [e1]; simp; omega
    have n1 : 1 ≤ (bs k).size := by omega
    by_cases h2 : 100 < k.length
    · rw [mmay_no (fun c => by have := c.2.1; simp only at this; omega)]
      have d2 : decide (((bs k).size : Int) ≤ 100) = false := by rw [e1]; simp; omega
      have n2 : 100 < (bs k).size := by omega
      clear e1 e2
      go_enter Try.func61, Try.ntmps61
      go_wp2_with fail
      go_ret
      exact ⟨rfl, (Kept.refl _).alloc _⟩
    · have d2 : decide (((bs k).size : Int) ≤ 100) = true := by rw [e1]; simp; omega
      have n2 : (bs k).size ≤ 100 := by omega
      by_cases h3 : 100 < v.length
      · rw [mmay_no (fun c => by have := c.2.2.1; simp only at this; omega)]
        have d3 : decide (((bs v).size : Int) ≤ 100) = false := by rw [e2]; simp; omega
        have n3 : 100 < (bs v).size := by omega
        clear e1 e2
        go_enter Try.func61, Try.ntmps61
        go_wp2_with fail
        go_ret
        exact ⟨rfl, (Kept.refl _).alloc _⟩
      · have d3 : decide (((bs v).size : Int) ≤ 100) = true := by rw [e2]; simp; omega
        have n3 : (bs v).size ≤ 100 := by omega
        by_cases h4 : d = true ∧ v ≠ []
        · rw [mmay_no (fun c => by have := c.2.2.2.1; simp only at this; exact h4.2 (this h4.1))]
          obtain ⟨rfl, hv0⟩ := h4
          have hvl : 0 < v.length := List.length_pos_iff.2 hv0
          have d4 : (((bs v).size : Int) == 0) = false := by rw [beq_eq_false_iff_ne, e2]; omega
          have n4 : (bs v).size ≠ 0 := by omega
          clear e1 e2 hv0 hvl
          go_enter Try.func61, Try.ntmps61
          go_wp2_with fail
          go_ret
          exact ⟨rfl, (Kept.refl _).alloc _⟩
        · have hr : Mm.may ⟨k, s, d, v⟩ = (decide ((1 : Int) ≤ (s : Int)) && decide ((s : Int) ≤ 1099511627776)) := by
            rw [Bool.eq_iff_iff, Mm.may_iff, Bool.and_eq_true, decide_eq_true_iff, decide_eq_true_iff]
            simp only
            constructor
            · rintro ⟨_, _, _, _, a, b⟩; omega
            · rintro ⟨a, b⟩
              exact ⟨by omega, by omega, by omega, fun hd => Classical.byContradiction fun hv0 => h4 ⟨hd, hv0⟩, by omega, by omega⟩
          rw [hr]
          have h5 : d = false ∨ (d = true ∧ (((bs v).size : Int) == 0) = true ∧ (bs v).size = 0) := by
            cases d with
            | false => exact .inl rfl
            | true =>
              have hv0 : v = [] := Classical.byContradiction fun hv0 => h4 ⟨rfl, hv0⟩
              have : (bs v).size = 0 := by rw [e2, hv0]; rfl
              exact .inr ⟨rfl, by rw [this]; rfl, this⟩
          clear e1 e2 hr h4
          by_cases h6 : 1 ≤ s
          · have d6 : decide ((1 : Int) ≤ (s : Int)) = true := by simp; omega
            rw [d6]
            rcases h5 with rfl | ⟨rfl, h5, n5⟩
            · go_enter Try.func61, Try.ntmps61
              go_wp2_with fail
              go_ret
              exact ⟨ret_bool (by simp), (Kept.refl _).alloc _⟩
            · go_enter Try.func61, Try.ntmps61
              go_wp2_with fail
              go_ret
              exact ⟨ret_bool (by simp), (Kept.refl _).alloc _⟩
          · have d6 : decide ((1 : Int) ≤ (s : Int)) = false := by simp; omega
            have n6 : s < 1 := by omega
            rw [d6]
            rcases h5 with rfl | ⟨rfl, h5, n5⟩
            · go_enter Try.func61, Try.ntmps61
              go_wp2_with fail
              go_ret
              exact ⟨ret_bool (by simp), (Kept.refl _).alloc _⟩
            · go_enter Try.func61, Try.ntmps61
              go_wp2_with fail
              go_ret
              exact ⟨ret_bool (by simp), (Kept.refl _).alloc _⟩
section
variable {w w' : World} {r : Nat} {G F : Nat → Prop} {T : List Mm.Tv} {AL AH : Option Addr} {cL cH : Nat}
theorem rget_any (h : Rt w r G T) (K : List UInt8) (S : Nat) :
    Calls Try.prog 30 #[.pointer (some ⟨r, 0, none⟩), .string (bs K), .int .u64 (S : Nat)] w fun e w' => e = .returned (getV T K S) ∧ Kept w w' := by
  obtain ⟨AL, cL, AH, cH, h⟩ := h
  have hgf := Mm.get_find h.good K S
  have hf := h.few
  have hel := Mm.ents_len T
  unfold getV
  rw [hgf, show (Mm.ents T).find? (Mm.mt K S) = Mm.bst K S (Mm.ents T) from rfl]
  have HELS := Lib.hid (fun W (k : Kept w W) => (h.kept k).els)
  have HR := Lib.hid (fun W (k : Kept w W) => mcell (h.kept k).blk 0 rfl)
  have hrl := mheap_lt h.blk
  clear h hgf
  generalize Mm.ents T = E at *
  generalize T.length = TL at *
  have HEL := Lib.hid hel
  have HST := Lib.hid (fun i y (hy : E[i]? = some y) => Mm.bst_step (k := K) (s := S) hy)
  have HALL := Lib.hid (fun i (b : Mm.Ent) (hb : Mm.bst K S (E.take i) = some b) => show Mm.bst K S E = some b by
    unfold Mm.bst at *
    rw [← List.take_append_drop i E, List.find?_append, hb]; rfl)
  have H0 : Hid (Mm.bst K S (E.take 0) = none) := Lib.hid rfl
  clear hel
  go_enter Try.func30, Try.ntmps30
  go_wp2_with fail
  have hk0 : Kept w (w.alloc (entObjR Mm.zent)) := (Kept.refl w).alloc _
  have hbx : (w.alloc (entObjR Mm.zent)).heap[w.heap.size]? = some (entObjR Mm.zent) := malloc_new w _
  change Code.wp _ _ _ _ (w.alloc (entObjR Mm.zent))
  generalize w.alloc (entObjR Mm.zent) = w0 at *
  have d0 := mcell hbx 0 rfl; have d1 := mcell hbx 1 rfl; have d2 := mcell hbx 2 rfl; have d3 := mcell hbx 3 rfl
  have f0 := mfrozen hbx
  have r0 := HR.out w0 hk0
  go_loopw [8] (fun t wi => ∃ i : Nat, i ≤ TL ∧ t = .int .i64 i ∧ Hid (Mm.bst K S (E.take i) = none) ∧ w0 = wi) (fun t _ => TL - (intOf t).toNat)
  case atStart => exact ⟨0, Nat.zero_le _, rfl, H0, rfl⟩
  case round =>
    obtain ⟨i, hi, rfl, HN, rfl⟩ := hrel
    by_cases hit : i < TL
    · obtain ⟨y, hy⟩ : ∃ y, E[i]? = some y := ⟨_, List.getElem?_eq_getElem (by rw [HEL.out]; exact hit)⟩
      obtain ⟨b, o, rfl, hb, c0, c1, c2, c3⟩ := (HELS.out w0 hk0) i y hy
      have hst := HST.out i y hy
      rw [HN.out, Option.none_or] at hst
      clear hy
      by_cases hyk : y.key = K
      · have e1 : ((bs y.key).toList == (bs K).toList) = true := by rw [mbs_eq]; exact decide_eq_true hyk
        by_cases hys : y.seq ≤ S
        · have e2 : decide ((y.seq : Int) ≤ (S : Int)) = true := by simp; omega
          have hm : Mm.mt K S y = true := Mm.mt_iff.2 ⟨hyk, hys⟩
          rw [hm] at hst
          have HA2 := Lib.hid (HALL.out (i + 1) y hst)
          clear hst hm hyk
          go_wp2_with fail
          refine bodyPost_ret (v := .tuple #[entV y, .bool true]) (by simp [results, Try.results30, go_sem, entV, d0, d1, d2, d3]) rfl ⟨by rw [HA2.out]; rfl, ?_⟩
          exact kept_own (kept_own (kept_own (kept_own hk0 (Nat.le_refl _)) (Nat.le_refl _)) (Nat.le_refl _)) (Nat.le_refl _)
        · have e2 : decide ((y.seq : Int) ≤ (S : Int)) = false := by simp; omega
          have hm : Mm.mt K S y = false := by rw [Bool.eq_false_iff, ne_eq, Mm.mt_iff]; exact fun c => hys c.2
          rw [hm] at hst
          have HN2 : Hid (Mm.bst K S (E.take (i + 1)) = none) := Lib.hid hst
          have n2 : S < y.seq := by omega
          clear hst hm hyk hys
          go_wp2_with fail
          go_roundw
          case rel => exact ⟨i + 1, by omega, by go_num, HN2, by trivial⟩
          case measure => simp [intOf]; omega
      · have e1 : ((bs y.key).toList == (bs K).toList) = false := by rw [mbs_eq]; exact decide_eq_false hyk
        have hm : Mm.mt K S y = false := by rw [Bool.eq_false_iff, ne_eq, Mm.mt_iff]; exact fun c => hyk c.1
        rw [hm] at hst
        have HN2 : Hid (Mm.bst K S (E.take (i + 1)) = none) := Lib.hid hst
        clear hst hm hyk
        go_wp2_with fail
        go_roundw
        case rel => exact ⟨i + 1, by omega, by go_num, HN2, by trivial⟩
        case measure => simp [intOf]; omega
    · have e : i = TL := by omega
      subst e
      have hn := HN.out
      rw [List.take_of_length_le (by rw [HEL.out]; omega)] at hn
      have HN2 := Lib.hid hn
      clear hn
      go_wp2_with fail
      refine bodyPost_ret (v := .tuple #[entV Mm.zent, .bool false]) (by simp [results, Try.results30, go_sem, entV, Mm.zent, bs, d0, d1, d2, d3]) rfl ⟨by rw [HN2.out]; rfl, ?_⟩
      exact kept_own (kept_own (kept_own (kept_own hk0 (Nat.le_refl _)) (Nat.le_refl _)) (Nat.le_refl _)) (Nat.le_refl _)
end
end Go.Proofs.Ytpbhbgoaaephgaa
