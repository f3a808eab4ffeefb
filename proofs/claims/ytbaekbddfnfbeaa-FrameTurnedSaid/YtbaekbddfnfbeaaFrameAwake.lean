/-
  What the helpers of the statements of layer 4 tell: awake, large, texts.
-/
import Derived.Test.YtbaekbddfnfbeaaFrameAll
namespace Go.Proofs.Ytbaekbddfnfbeaa
open Go.ChangeShapes Go.WideShapes Go.ChangeAt Go.RowKit
set_option linter.unusedVariables false
set_option maxHeartbeats 400000

theorem flarge_any (A : Option Addr) (c : Nat) (l : List (List UInt8)) (hl : l.length ≤ maxLen) (hx : ∀ x ∈ l, x.length ≤ maxLen) (w : World) (hA : Txs w A l) :
    Calls Try.prog 11 #[.slice A l.length c] w fun e w' => ∃ B, e = .returned (.bool B) ∧ (B = false → l.length ≤ 100) ∧ Kept w w' := by
  unfold maxLen at hl
  have HX := Lib.hid hx; clear hx
  go_enter Try.func11, Try.ntmps11
  go_wp2_with fail
  go_loopw [3, 7] (fun z t wr => ∃ (k : Nat) (n : Int), k ≤ l.length ∧ t = .int .i64 k ∧ z = .int .i64 n ∧ wr = w) (fun _ t _ => l.length - (intOf t).toNat)
  case atStart => exact ⟨0, 0, Nat.zero_le _, rfl, rfl, rfl⟩
  case round =>
    obtain ⟨k, n, hk, rfl, rfl, rfl⟩ := hrel
    by_cases hlt : k < l.length
    · have hx : l[k]? = some l[k] := List.getElem?_eq_getElem hlt
      have hmem : l[k] ∈ l := List.getElem_mem hlt
      generalize l[k] = x at hx hmem
      obtain ⟨b, o, rfl, hb, hcell⟩ := hA k x hx
      have hsz : (bs x).size ≤ 9223372036854775807 := by rw [fbs_size]; have := HX.out x hmem; unfold maxLen at this; omega
      clear hx hmem
      go_wp2_with fail
      go_roundw
      case rel => exact ⟨k + 1, _, by omega, by go_num, rfl, trivial⟩
      case measure => simp [intOf]; omega
    · by_cases h100 : 100 < l.length
      · have d : decide ((100 : Int) < (l.length : Int)) = true := by simp; omega
        go_wp2_with fail
        go_ret
        refine ⟨true, rfl, ?_, Kept.refl _⟩
        intro e
        cases e
      · have d : decide ((100 : Int) < (l.length : Int)) = false := by simp; omega
        have h100' : l.length ≤ 100 := by omega
        clear h100
        go_wp2_with fail
        go_ret
        exact ⟨_, rfl, fun _ => h100', Kept.refl _⟩
theorem ftexts_any (A1 A2 : Option Addr) (c1 c2 : Nat) (l m : List (List UInt8)) (hl : l.length ≤ maxLen) (hm : m.length ≤ maxLen) (w : World) (h1 : Txs w A1 l) (h2 : Txs w A2 m) :
    Calls Try.prog 14 #[.slice A1 l.length c1, .slice A2 m.length c2] w fun e w' => e = .returned (.bool (decide (l = m))) ∧ Kept w w' := by
  unfold maxLen at hl hm
  by_cases hlen : l.length = m.length
  · have d : ((l.length : Int) != (m.length : Int)) = false := by simp [hlen]
    have HLEN := Lib.hid hlen; clear hlen
    go_enter Try.func14, Try.ntmps14
    go_wp2_with fail
    go_loopw [13] (fun t wr => ∃ (k : Nat), k ≤ l.length ∧ t = .int .i64 k ∧ Hid (l.take k = m.take k) ∧ Kept w wr) (fun t _ => l.length - (intOf t).toNat)
    case atStart => exact ⟨0, Nat.zero_le _, rfl, Lib.hid rfl, Kept.refl _⟩
    case round =>
      obtain ⟨k, hk, rfl, HE, hkr⟩ := hrel
      by_cases hlt : k < l.length
      · have hlt2 : k < m.length := by have := HLEN.out; omega
        have hx : l[k]? = some l[k] := List.getElem?_eq_getElem hlt
        have hy : m[k]? = some m[k] := List.getElem?_eq_getElem hlt2
        generalize l[k] = x at hx
        generalize m[k] = y at hy
        obtain ⟨b1, o1, rfl, hb1, hc1⟩ := (h1.kept hkr) k x hx
        obtain ⟨b2, o2, rfl, hb2, hc2⟩ := (h2.kept hkr) k y hy
        by_cases hxy : x = y
        · subst hxy
          have hn : l.take (k + 1) = m.take (k + 1) := by rw [List.take_add_one, List.take_add_one, hx, hy, HE.out]
          have HN := Lib.hid hn
          clear hx hy hn
          go_wp2_with fail
          go_quiet (fail)
          go_wp2_with fail
          go_roundw
          case rel => exact ⟨k + 1, by omega, by go_num, HN, kept_trans hkr (kept_drewN _ _)⟩
          case measure => simp [intOf]; omega
        · have hne : l ≠ m := by
            rintro rfl
            rw [hx] at hy
            exact hxy (Option.some.inj hy)
          have d1 : ((bs x).toList == (bs y).toList) = false := by
            rw [Lib.toList_data, Lib.toList_data, bs_data, bs_data]; simpa using hxy
          have d2 : ((bs x).toList != (bs y).toList) = true := by simp [bne, d1]
          have hd : decide (l = m) = false := decide_eq_false hne
          have HD := Lib.hid hd
          clear hx hy hxy hne hd
          go_wp2_with fail
          go_quiet (fail)
          go_wp2_with fail
          go_ret
          exact ⟨by rw [HD.out]; rfl, kept_trans hkr (kept_drewN _ _)⟩
      · have e : k = l.length := by omega
        subst e
        have he := HE.out
        rw [List.take_length, HLEN.out, List.take_length] at he
        have hd : decide (l = m) = true := decide_eq_true he
        have HD := Lib.hid hd
        clear he hd
        go_wp2_with fail
        go_ret
        exact ⟨by rw [HD.out]; rfl, hkr⟩
  · have d : ((l.length : Int) != (m.length : Int)) = true := by simp; omega
    have hd : decide (l = m) = false := decide_eq_false (fun e => hlen (by rw [e]))
    rw [hd]
    clear hd
    go_enter Try.func14, Try.ntmps14
    go_wp2_with fail
    go_ret
    exact ⟨rfl, Kept.refl _⟩
def zeros8 : List UInt8 := List.replicate 8001 0
theorem zeros8_len : zeros8.length = 8001 := List.length_replicate
theorem zeros_cells (n : Nat) : madeCells (Value.int .u8 0).cells (n * 1) = (cellsOf (List.replicate n 0)).toArray := by
  apply Array.ext
  · rw [size_madeCells]; simp [cellsOf]
  · intro i h1 h2
    simp [madeCells, Value.cells, Nat.mod_one, cellsOf]
theorem zeros8_cells : madeCells (Value.int .u8 0).cells (8001 * 1) = (cellsOf zeros8).toArray := zeros_cells 8001
theorem zeros8_make (wx : World) : (Instr.makeSlice 39 (.int .i64 8001) (.int .i64 8001)).run Try.prog wx = .ok (.slice (some ⟨wx.heap.size, 0, none⟩) 8001 8001) (wx.alloc (.cells (cellsOf zeros8).toArray 5)) := by
  obtain ⟨i0, hi, hz0, hz1, hz2⟩ := info_parts info5
  have := run_make (P := Try.prog) wx 39 5 i0 (.int .u8 0) Try.underlying39 hi hz0 .i64 .i64 8001 8001 (by omega) (by omega) (by rw [hz2]; omega) (by omega)
  rw [show (8001 : Int).toNat = 8001 from rfl, hz1, zeros8_cells] at this
  exact this
theorem awake_make (w : World) : Calls Try.prog 19 #[.string ⟨#[97]⟩] w fun e w' => e = .returned (.tuple #[.string ⟨#[1, 97, 196]⟩, .int .i64 0]) ∧ Kept w w' := make_any ⟨#[97]⟩ (by decide) w
theorem awake_take (w : World) : Calls Try.prog 15 #[.string ⟨#[1, 97, 196, 122, 122]⟩] w fun e w' => e = .returned (.tuple #[.string ⟨#[97]⟩, .string ⟨#[122, 122]⟩, .int .i64 0]) ∧ Kept w w' := ftake_any ⟨#[1, 97, 196, 122, 122]⟩ (by decide) w
theorem awake_all (w : World) : Calls Try.prog 12 #[.string ⟨#[1, 97, 196, 0, 165, 2, 97]⟩] w fun e w' => ∃ A c, e = .returned (.tuple #[.slice A 2 c, .int .i64 5]) ∧ Txs w' A [[97], []] ∧ Kept w w' :=
  all_any ⟨#[1, 97, 196, 0, 165, 2, 97]⟩ (by decide) [[97], []] [2, 97] ⟨fun t ht => by simp at ht; rcases ht with rfl | rfl <;> decide, rfl, rfl⟩ w
theorem awake_join (w : World) (b c : Nat) (h0 : w.cell? ⟨b, 0, none⟩ = some (.string ⟨#[97]⟩)) (h1 : w.cell? ⟨b, 1, none⟩ = some (.string ⟨#[]⟩)) (hb : b < w.heap.size) : Calls Try.prog 17 #[.slice (some ⟨b, 0, none⟩) 2 c] w fun e w' => e = .returned (.tuple #[.string ⟨#[1, 97, 196, 0, 165]⟩, .int .i64 0]) ∧ Kept w w' :=
  join_few (some ⟨b, 0, none⟩) c [[97], []] (by decide) (fun x hx => by simp at hx; rcases hx with rfl | rfl <;> decide) w (fun j x hx => by
    match j, hx with
    | 0, hx => simp at hx; subst hx; exact ⟨b, 0, rfl, hb, h0⟩
    | 1, hx => simp at hx; subst hx; exact ⟨b, 0, rfl, hb, h1⟩)
theorem awake_none (w : World) : Calls Try.prog 15 #[.string ⟨#[]⟩] w fun e w' => e = .returned (.tuple #[.string ⟨#[]⟩, .string ⟨#[]⟩, .int .i64 10]) ∧ Kept w w' := ftake_any ⟨#[]⟩ (by decide) w
theorem awake_big (w : World) : Calls Try.prog 19 #[.string (bs zeros8)] w fun e w' => e = .returned (.tuple #[.string ⟨#[]⟩, .int .i64 5]) ∧ Kept w w' := by
  have h := make_any (bs zeros8) (by rw [fbs_size, zeros8_len]; unfold maxLen; omega) w
  have e1 : Fr.makeS zeros8 = [] := by unfold Fr.makeS; rw [if_neg (by rw [zeros8_len]; omega)]
  have e2 : Fr.makeE zeros8 = 5 := by unfold Fr.makeE; rw [if_neg (by rw [zeros8_len]; omega)]
  rw [bs_data, e1, e2] at h
  exact h
set_option maxRecDepth 100000 in
set_option maxHeartbeats 2000000 in
theorem fawake_any (w : World) : Calls Try.prog 10 #[] w fun e w' => e = .returned (.bool true) ∧ Kept w w' := by
  go_enter Try.func10, Try.ntmps10
  go_wp2_with fail
  refine (awake_make _).mono ?_
  rintro e w1 ⟨rfl, g1⟩
  go_wp2_with fail
  refine (awake_take _).mono ?_
  rintro e w2 ⟨rfl, g2⟩
  go_wp2_with fail
  refine (awake_all _).mono ?_
  rintro e w3 ⟨A, c, rfl, hT, g3⟩
  obtain ⟨tb, to, rfl, htb, ht0⟩ := hT 0 [97] rfl
  obtain ⟨tb', to', ee, htb', ht1⟩ := hT 1 [] rfl
  cases ee
  go_wp2_with fail
  refine (awake_join _ _ _ (by simp) (by simp) (by simp)).mono ?_
  rintro e w4 ⟨rfl, g4⟩
  go_wp2_with fail
  refine (awake_none _).mono ?_
  rintro e w5 ⟨rfl, g5⟩
  have hmk := zeros8_make w5
  have hcv := conv_row w5 zeros8 _ 5 8001 8001 zeros8_len.symm (rfl : (cellsOf zeros8).toArray = _)
  go_wp2_with fail
  refine (awake_big _).mono ?_
  rintro e w6 ⟨rfl, g6⟩
  have g46 : Kept w3 w6 := kept_trans ((Kept.refl _).alloc _) (kept_trans g4 (kept_trans g5 (kept_trans ((Kept.refl _).alloc _) g6)))
  have k0 : w6.cell? ⟨tb, to + 0, none⟩ = some (.string (bs [97])) := by rw [kept_cell g46 htb]; exact ht0
  have k1 : w6.cell? ⟨tb, to + 1, none⟩ = some (.string (bs [])) := by rw [kept_cell g46 htb]; exact ht1
  have e1 : bs [97] = ⟨#[97]⟩ := rfl
  have e2 : bs [] = ⟨#[]⟩ := rfl
  rw [e1, Nat.add_zero] at k0
  rw [e2] at k1
  clear e1 e2 ht0 ht1 hT hmk hcv
  go_wp2_with fail
  go_ret
  exact ⟨rfl, kept_trans g1 (kept_trans g2 (kept_trans g3 g46))⟩
end Go.Proofs.Ytbaekbddfnfbeaa
