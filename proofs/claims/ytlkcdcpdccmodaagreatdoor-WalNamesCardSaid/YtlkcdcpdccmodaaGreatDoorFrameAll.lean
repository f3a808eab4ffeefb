/-
  What All and Join of package frame compute, each for every input up to 16777216 bytes; lists of texts in memory.
-/
import Derived.Test.YtlkcdcpdccmodaaGreatDoorFrameFns
import Derived.WalkMore
namespace Go.Proofs.YtlkcdcpdccmodaaGreatDoor
open Go.ChangeShapes Go.WideShapes Go.ChangeAt Go.RowKit
set_option linter.unusedVariables false
set_option maxRecDepth 100000
set_option maxHeartbeats 400000

/-- a list of texts that lies in memory -/
def Txs (w : World) (A : Option Addr) (l : List (List UInt8)) : Prop := ∀ (j : Nat) (x : List UInt8), l[j]? = some x → ∃ b o, A = some ⟨b, o, none⟩ ∧ b < w.heap.size ∧ w.cell? ⟨b, o + j, none⟩ = some (.string (bs x))
theorem Txs.kept {w w' : World} {A : Option Addr} {l : List (List UInt8)} (h : Txs w A l) (k : Kept w w') : Txs w' A l := fun j x hx => by
  obtain ⟨b, o, e, hb, hc⟩ := h j x hx
  exact ⟨b, o, e, Nat.lt_of_lt_of_le hb (Below.size k), by rw [kept_cell k hb]; exact hc⟩
theorem Txs.take {w : World} {A : Option Addr} {l : List (List UInt8)} (h : Txs w A l) (n : Nat) : Txs w A (l.take n) := fun j x hx => h j x (by
  rw [List.getElem?_take] at hx
  split at hx
  · exact hx
  · cases hx)
def txc (l : List (List UInt8)) : List Value := l.map fun x => Value.string (bs x)
theorem txc_len (l : List (List UInt8)) : (txc l).length = l.length := by simp [txc]
theorem txs_own {w : World} {base n : Nat} {v : Value} {l : List (List UInt8)} (h : w.ownsRow base 9 1 v n (txc l)) : ∃ A c, v = .slice A l.length c ∧ n = l.length ∧ Txs w A l := by
  have hl : l.length = n := by have := h.1; simpa [txc_len] using this
  rcases h.2 with ⟨e, e0⟩ | ⟨r, cap, cur, e, hbs, hb, hnc, _, _, htk⟩
  · have : l = [] := List.eq_nil_of_length_eq_zero (by omega)
    subst this
    exact ⟨none, 0, e, by omega, fun j x hx => by simp at hx⟩
  · refine ⟨some ⟨r, 0, none⟩, cap, by rw [hl]; exact e, hl.symm, fun j x hx => ?_⟩
    have hj := (List.getElem?_eq_some_iff.1 hx).1
    refine ⟨r, 0, rfl, (Array.getElem?_eq_some_iff.1 hb).1, ?_⟩
    rw [Nat.zero_add, blk_cell hb]
    have e1 : (cur.toList.take (n * 1))[j]? = some (.string (bs x)) := by rw [htk]; unfold txc; rw [List.getElem?_map, hx]; rfl
    rw [List.getElem?_take] at e1
    split at e1
    · simpa using e1
    · cases e1
theorem ftInfo : (Tryz.prog.info? 9).map (fun i => (i.zero, i.size, i.bytes)) = some (some (.string ByteArray.empty), 1, 16) := by kernel_rfl
theorem cell_new1 (w : World) (x : Value) (t : TypeId) : ∀ j u, [x][j]? = some u → (w.alloc (.cells #[x] t)).cell? ((⟨w.heap.size, 0, none⟩ : Addr).add j) = some u := by
  intro j u hj
  cases j with
  | zero => simp at hj; subst hj; rw [addr_add]; simp
  | succ j => simp at hj
def strLen : Value → Nat
  | .string s => s.size
  | _ => 0
theorem takeE_none {r : List UInt8} (h : Fr.take r = none) : (Fr.takeE r == 0) = false := by
  unfold Fr.takeE
  rw [h]
  split <;> rfl
theorem fall_len {s : List UInt8} {l : List (List UInt8)} {r : List UInt8} (h : Fr.Reads s l r) (k : Nat) : (Fr.join (l.drop k) ++ r).length ≤ s.length := by
  have e : Fr.join l = Fr.join (l.take k) ++ Fr.join (l.drop k) := by rw [← Fr.join_app, List.take_append_drop]
  rw [h.eq, e]
  simp only [List.length_append]; omega
theorem all_row (s : ByteArray) (hs : s.size ≤ 16777216) (l : List (List UInt8)) (r : List UInt8) (h : Fr.Reads s.data.toList l r) (w : World) :
    Calls Tryz.prog 62 #[.string s] w fun e w' => ∃ A c, e = .returned (.tuple #[.slice A l.length c, .int .i64 ((Fr.join l).length : Nat)]) ∧ w'.ownsRow w.heap.size 9 1 (.slice A l.length c) l.length (txc l) ∧ Kept w w' := by
  have hfew := h.few.1
  rw [toList_size] at hfew
  have hlen := h.len
  rw [toList_size] at hlen
  have hrest : ∀ k, (bs (Fr.join (l.drop k) ++ r)).size ≤ 16777216 := fun k => by
    have := fall_len h k
    rw [toList_size] at this
    rw [fbs_size]; omega
  have HR := Lib.hid hrest
  have H := Lib.hid h
  have HL := Lib.hid hlen
  obtain ⟨i0, hi, hz0, hz1, hz2⟩ := info_parts ftInfo
  have HI := Lib.hid hi; have HZ0 := Lib.hid hz0; have HZ1 := Lib.hid hz1; have HZ2 := Lib.hid hz2
  have hstart : s = bs (Fr.join (l.drop 0) ++ r) := by
    rw [List.drop_zero, ← h.eq, fbs_self]
  have HS := Lib.hid hstart
  clear hi hz0 hz1 hz2 hrest h hlen hstart
  go_enter Tryz.func62, Tryz.ntmps62
  go_wp2_with fail
  go_step3
  go_wp2_with fail
  go_step3
  go_wp2_with fail
  go_loopw [4, 5] (fun v t wr => ∃ k : Nat, k ≤ l.length ∧ t = .string (bs (Fr.join (l.drop k) ++ r)) ∧ wr.ownsRow w.heap.size 9 1 v k (txc (l.take k)) ∧ Kept w wr) (fun _ t _ => strLen t)
  case atStart => exact ⟨0, Nat.zero_le _, by rw [← HS.out], World.ownsRow_nil _ _ _ _, Kept.refl _⟩
  case round =>
    obtain ⟨k, hk, rfl, hown, hkr⟩ := hrel
    have hsz := HR.out k
    have hc := ftake_any (bs (Fr.join (l.drop k) ++ r)) (by unfold maxLen; omega)
    rw [bs_data] at hc
    by_cases hlt : k < l.length
    · have hx : l[k]? = some l[k] := List.getElem?_eq_getElem hlt
      generalize l[k] = x at hx
      obtain ⟨e1, e2, e3⟩ := takeT_ok (H.out.at hx)
      rw [e1, e2, e3] at hc
      have htk : txc (l.take (k + 1)) = txc (l.take k) ++ [.string (bs x)] := by unfold txc; rw [List.take_add_one, hx, List.map_append]; rfl
      have HTK := Lib.hid htk
      have hless := Fr.take_less (H.out.at hx)
      have hm : (bs (Fr.join (l.drop (k + 1)) ++ r)).size < (bs (Fr.join (l.drop k) ++ r)).size := by rw [fbs_size, fbs_size]; exact hless.1
      have hbase : w.heap.size ≤ wr.heap.size := Below.size hkr
      clear e1 e2 e3 htk hx hless
      generalize Fr.join (l.drop k) ++ r = R0 at *
      generalize hR1 : Fr.join (l.drop (k + 1)) ++ r = R1 at *
      have HR1 := Lib.hid hR1; clear hR1
      go_wp2_with fail
      refine (hc _).mono ?_
      rintro e w1 ⟨rfl, g1⟩
      have hown1 := own_kept hown g1
      have hs1 := Below.size g1
      go_wp2_with (at_builtin; refine wpList_append_own _ rfl _ _ 49 rfl w.heap.size 9 i0 (.string ByteArray.empty) 1 16 Tryz.underlying49 HI.out HZ0.out HZ1.out HZ2.out rfl (by decide) _ k (txc (l.take k)) rfl (hown1.alloc _) ⟨w1.heap.size, 0, none⟩ 1 1 [.string (bs x)] rfl rfl (cell_new1 _ _ _) (by simp [Value.oneCell']) (by unfold maxLen; omega) (by omega) (by simp; omega) ?_)
      intro v' w2 hown2 hg _
      have g2 : Kept w w2 := Below.grown ((kept_trans hkr g1).alloc _) hg (by simp; omega) (fun b hb => (hown1.lt b hb).1)
      go_wp2_with fail
      go_roundw
      case rel => exact ⟨k + 1, by omega, by rw [HR1.out], by rw [HTK.out]; exact hown2, g2⟩
      case measure => exact hm
    · have e : k = l.length := by omega
      subst e
      rw [List.take_length] at hown
      have hd : Fr.join (l.drop l.length) ++ r = r := by rw [List.drop_length]; rfl
      rw [hd] at hc hsz
      have hE := takeE_none H.out.stop
      have HD := Lib.hid hd
      rw [hd]
      generalize Fr.takeE r = E at *
      generalize Fr.takeT r = T at *
      generalize Fr.takeR r = Q at *
      have hrs : ((s.size : Int) - ((bs r).size : Int)) = (((Fr.join l).length : Nat) : Int) := by rw [fbs_size]; have := HL.out; omega
      have HRS := Lib.hid hrs
      clear hrs hd
      go_wp2_with fail
      refine (hc _).mono ?_
      rintro e w1 ⟨rfl, g1⟩
      go_wp2_with fail
      have ho := own_kept hown g1
      obtain ⟨A, c, rfl, _, ht⟩ := txs_own ho
      rw [Exit.noGoto_ret, HRS.out]
      go_ret2
      exact ⟨A, c, rfl, ho, kept_trans hkr g1⟩
theorem all_any (s : ByteArray) (hs : s.size ≤ 16777216) (l : List (List UInt8)) (r : List UInt8) (h : Fr.Reads s.data.toList l r) (w : World) :
    Calls Tryz.prog 62 #[.string s] w fun e w' => ∃ A c, e = .returned (.tuple #[.slice A l.length c, .int .i64 ((Fr.join l).length : Nat)]) ∧ Txs w' A l ∧ Kept w w' :=
  (all_row s hs l r h w).mono fun e w' ⟨A, c, he, ho, hk⟩ => by
    obtain ⟨A', c', e', _, ht⟩ := txs_own ho
    cases e'
    exact ⟨A, c, he, ht, hk⟩
theorem joinS_yes {l : List (List UInt8)} (h : Fr.Fit l) : Fr.joinS l = Fr.join l ∧ Fr.joinE l = 0 := by
  have : l.all (fun t => decide (t.length ≤ 8000)) = true := List.all_eq_true.2 fun t ht => by simpa using h t ht
  unfold Fr.joinS Fr.joinE
  rw [this]; exact ⟨rfl, rfl⟩
theorem joinS_no {l : List (List UInt8)} {t : List UInt8} (ht : t ∈ l) (h : ¬ t.length ≤ 8000) : Fr.joinS l = [] ∧ Fr.joinE l = 5 := by
  have : l.all (fun t => decide (t.length ≤ 8000)) = false := by
    rw [List.all_eq_false]
    exact ⟨t, ht, by simpa using h⟩
  unfold Fr.joinS Fr.joinE
  rw [this]; exact ⟨rfl, rfl⟩
theorem joined_len {l : List (List UInt8)} (k : Nat) (hl : l.length ≤ 2000) (h : Fr.Fit (l.take k)) : (Fr.join (l.take k)).length ≤ 16006000 := by
  have h1 := Fr.join_most _ h
  have h3 : (l.take k).length ≤ l.length := by rw [List.length_take]; omega
  omega
end Go.Proofs.YtlkcdcpdccmodaaGreatDoor
