/-
  What the document's own All and Join of layer 4 (package screeref04) compute: the same as the program's.
-/
import Derived.Test.YtbaekbddfnfbeaaFrameRef
namespace Go.Proofs.Ytbaekbddfnfbeaa
open Go.ChangeShapes Go.WideShapes Go.ChangeAt Go.RowKit
set_option linter.unusedVariables false
set_option maxHeartbeats 1000000

theorem own_empty (w : World) : (w.alloc (.cells #[] 9)).ownsRow w.heap.size 9 1 (.slice (some ⟨w.heap.size, 0, none⟩) 0 0) 0 (txc []) :=
  World.ownsRow_made (base := w.heap.size) (e := 9) (size := 1) w #[] 0 (Nat.le_refl _) (by unfold maxLen; omega) rfl
theorem rest_of {s : ByteArray} {l : List (List UInt8)} {r : List UInt8} (h : Fr.Reads s.data.toList l r) (k : Nat) : s.extract (Fr.join (l.take k)).length s.size = bs (Fr.join (l.drop k) ++ r) ∧ (Fr.join (l.take k)).length + (Fr.join (l.drop k) ++ r).length = s.size := by
  have e : Fr.join l = Fr.join (l.take k) ++ Fr.join (l.drop k) := by rw [← Fr.join_app, List.take_append_drop]
  have e2 : s.data.toList = Fr.join (l.take k) ++ (Fr.join (l.drop k) ++ r) := by rw [h.eq, e, List.append_assoc]
  constructor
  · rw [extract_end, e2, List.drop_left]
  · have := congrArg List.length e2
    rw [toList_size, List.length_append] at this
    omega
set_option maxRecDepth 100000 in
theorem rall_any (s : ByteArray) (hs : s.size ≤ 16777216) (l : List (List UInt8)) (r : List UInt8) (h : Fr.Reads s.data.toList l r) (w : World) :
    Calls Try.prog 13 #[.string s] w fun e w' => ∃ A c, e = .returned (.tuple #[.slice A l.length c, .int .i64 ((Fr.join l).length : Nat)]) ∧ Txs w' A l ∧ Kept w w' := by
  have hfew := h.few.1
  rw [toList_size] at hfew
  have hrest := rest_of h
  have HR := Lib.hid hrest
  have H := Lib.hid h
  obtain ⟨i0, hi, hz0, hz1, hz2⟩ := info_parts ftInfo
  have HI := Lib.hid hi; have HZ0 := Lib.hid hz0; have HZ1 := Lib.hid hz1; have HZ2 := Lib.hid hz2
  clear hi hz0 hz1 hz2 hrest h
  go_enter Try.func13, Try.ntmps13
  go_wp2_with fail
  go_loopw [4, 5] (fun v t wr => ∃ (k n : Nat), k ≤ l.length ∧ Hid (n = (Fr.join (l.take k)).length) ∧ t = .int .i64 n ∧ wr.ownsRow w.heap.size 9 1 v k (txc (l.take k)) ∧ Kept w wr) (fun _ t _ => s.size - (intOf t).toNat)
  case atStart => exact ⟨0, 0, Nat.zero_le _, Lib.hid rfl, rfl, own_empty w, (Kept.refl w).alloc _⟩
  case round =>
    obtain ⟨k, n, hk, HN, rfl, hown, hkr⟩ := hrel
    obtain ⟨hx1, hx2⟩ := HR.out k
    rw [← HN.out] at hx1 hx2
    have hn : n ≤ s.size := by omega
    have hc := rftake_any (bs (Fr.join (l.drop k) ++ r)) (by rw [fbs_size]; unfold maxLen; omega)
    rw [bs_data] at hc
    by_cases hlt : k < l.length
    · have hx : l[k]? = some l[k] := List.getElem?_eq_getElem hlt
      generalize l[k] = x at hx
      obtain ⟨e1, e2, e3⟩ := takeT_ok (H.out.at hx)
      rw [e1, e2, e3] at hc
      have htk : txc (l.take (k + 1)) = txc (l.take k) ++ [.string (bs x)] := by unfold txc; rw [List.take_add_one, hx, List.map_append]; rfl
      have HTK := Lib.hid htk
      obtain ⟨_, hx3⟩ := HR.out (k + 1)
      have hless := (Fr.take_less (H.out.at hx)).1
      obtain ⟨n', hn'⟩ : ∃ n', n' = (Fr.join (l.take (k + 1))).length := ⟨_, rfl⟩
      have hsub : ((s.size : Int) - ((bs (Fr.join (l.drop (k + 1)) ++ r)).size : Int)) = (n' : Int) := by rw [fbs_size]; omega
      have hgt : n < n' := by omega
      have hbase : w.heap.size ≤ wr.heap.size := Below.size hkr
      have hR1 : (bs (Fr.join (l.drop (k + 1)) ++ r)).size ≤ s.size := by rw [fbs_size]; omega
      have HN' := Lib.hid hn'; have HSUB := Lib.hid hsub
      have hn's : n' ≤ s.size := by omega
      clear e1 e2 e3 htk hx hless hx2 hx3 hn' hsub
      generalize Fr.join (l.drop k) ++ r = R0 at *
      generalize Fr.join (l.drop (k + 1)) ++ r = R1 at *
      go_wp2_with fail
      refine (hc _).mono ?_
      rintro e w1 ⟨rfl, g1⟩
      have hown1 := own_kept hown g1
      have hs1 := Below.size g1
      clear hx1
      go_wp2_with (at_builtin; refine wpList_append_own _ rfl _ _ 22 rfl w.heap.size 9 i0 (.string ByteArray.empty) 1 16 Try.underlying22 HI.out HZ0.out HZ1.out HZ2.out rfl (by decide) _ k (txc (l.take k)) rfl (hown1.alloc _) ⟨w1.heap.size, 0, none⟩ 1 1 [.string (bs x)] rfl rfl (cell_new1 _ _ _) (by simp [Value.oneCell']) (by unfold maxLen; omega) (by omega) (by simp; omega) ?_)
      intro v' w2 hown2 hg _
      have g2 : Kept w w2 := Below.grown ((kept_trans hkr g1).alloc _) hg (by simp; omega) (fun b hb => (hown1.lt b hb).1)
      go_wp2_with fail
      go_roundw
      case rel => exact ⟨k + 1, n', by omega, HN', by rw [HSUB.out], by rw [HTK.out]; exact hown2, g2⟩
      case measure => have := HSUB.out; simp [intOf]; omega
    · have e : k = l.length := by omega
      subst e
      rw [List.take_length] at hown
      have hnl : n = (Fr.join l).length := by have := HN.out; rw [List.take_length] at this; exact this
      have hd : Fr.join (l.drop l.length) ++ r = r := by rw [List.drop_length]; rfl
      rw [hd] at hc hx1
      have hE := takeE_none H.out.stop
      have hE2 : (Fr.takeE r != 0) = true := by simp [bne, hE]
      have HNL := Lib.hid hnl
      generalize Fr.takeE r = E at *
      generalize Fr.takeT r = T at *
      generalize Fr.takeR r = Q at *
      clear hd hnl hx2
      go_wp2_with fail
      refine (hc _).mono ?_
      rintro e w1 ⟨rfl, g1⟩
      clear hx1
      go_wp2_with fail
      obtain ⟨A, c, rfl, _, ht⟩ := txs_own (own_kept hown g1)
      go_ret2
      exact ⟨A, c, by rw [HNL.out]; rfl, ht, kept_trans hkr g1⟩
theorem rjoin_any (A : Option Addr) (c : Nat) (l : List (List UInt8)) (hl : l.length ≤ 2000) (hx : ∀ x ∈ l, x.length ≤ maxLen) (w : World) (hA : Txs w A l) :
    Calls Try.prog 18 #[.slice A l.length c] w fun e w' => e = .returned (.tuple #[.string (bs (Fr.joinS l)), .int .i64 (Fr.joinE l)]) ∧ Kept w w' := by
  have HX := Lib.hid hx; clear hx
  go_enter Try.func18, Try.ntmps18
  go_wp2_with fail
  go_loopw [4, 5] (fun v t wr => ∃ k : Nat, k ≤ l.length ∧ t = .int .i64 k ∧ Hid (Fr.Fit (l.take k)) ∧ v = .string (bs (Fr.join (l.take k))) ∧ Kept w wr) (fun _ t _ => l.length - (intOf t).toNat)
  case atStart => exact ⟨0, Nat.zero_le _, rfl, Lib.hid Fr.fit_nil, rfl, Kept.refl w⟩
  case round =>
    obtain ⟨k, hk, rfl, HF, rfl, hkr⟩ := hrel
    by_cases hlt : k < l.length
    · have hx : l[k]? = some l[k] := List.getElem?_eq_getElem hlt
      have hmem : l[k] ∈ l := List.getElem_mem hlt
      generalize l[k] = x at hx hmem
      obtain ⟨b, o, rfl, hb, hcell⟩ := (hA.kept hkr) k x hx
      have hc := rmake_any (bs x) (by rw [fbs_size]; exact HX.out x hmem)
      rw [bs_data] at hc
      have htk : l.take (k + 1) = l.take k ++ [x] := by rw [List.take_add_one, hx]; rfl
      by_cases h8 : x.length ≤ 8000
      · have e1 : Fr.makeS x = Fr.mk x := by unfold Fr.makeS; rw [if_pos h8]
        have e2 : Fr.makeE x = 0 := by unfold Fr.makeE; rw [if_pos h8]
        have hfit : Fr.Fit (l.take (k + 1)) := by rw [htk]; exact Fr.fit_app.2 ⟨HF.out, fun t ht => by simp at ht; rw [ht]; exact h8⟩
        have hjoin : bs (Fr.join (l.take (k + 1))) = bs (Fr.join (l.take k)) ++ bs (Fr.mk x) := by rw [htk, Fr.join_snoc, fbs_app]
        have hjl : (bs (Fr.join (l.take k))).size ≤ 16006000 := by rw [fbs_size]; exact joined_len k hl HF.out
        have hml : (bs (Fr.mk x)).size ≤ 9000 := by have := (Fr.mk_lens x h8).2; rw [fbs_size]; omega
        rw [e1, e2] at hc
        have HJ := Lib.hid hjoin; have HFI := Lib.hid hfit
        clear e1 e2 hx hmem htk hjoin hfit
        generalize Fr.join (l.take k) = J at *
        generalize Fr.mk x = M at *
        go_wp2_with fail
        refine (hc _).mono ?_
        rintro e w1 ⟨rfl, g1⟩
        go_wp2_with fail
        go_roundw
        case rel => exact ⟨k + 1, by omega, by go_num, HFI, by rw [HJ.out], kept_trans hkr g1⟩
        case measure => simp [intOf]; omega
      · have e1 : Fr.makeS x = [] := by unfold Fr.makeS; rw [if_neg h8]
        have e2 : Fr.makeE x = 5 := by unfold Fr.makeE; rw [if_neg h8]
        obtain ⟨e3, e4⟩ := joinS_no hmem h8
        rw [e1, e2] at hc
        have HE3 := Lib.hid e3; have HE4 := Lib.hid e4
        clear e1 e2 e3 e4 hx hmem htk
        go_wp2_with fail
        refine (hc _).mono ?_
        rintro e w1 ⟨rfl, g1⟩
        go_wp2_with fail
        go_ret2
        exact ⟨by rw [HE3.out, HE4.out]; rfl, kept_trans hkr g1⟩
    · have e : k = l.length := by omega
      subst e
      have hfit : Fr.Fit l := by have := HF.out; rw [List.take_length] at this; exact this
      obtain ⟨e3, e4⟩ := joinS_yes hfit
      rw [List.take_length]
      have HE3 := Lib.hid e3; have HE4 := Lib.hid e4
      clear e3 e4 hfit
      go_wp2_with fail
      go_ret2
      exact ⟨by rw [HE3.out, HE4.out]; rfl, hkr⟩
end Go.Proofs.Ytbaekbddfnfbeaa
