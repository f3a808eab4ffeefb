/-
  What the helpers of the statements of layer 5 tell: large, awake; lists of operations that come in.
-/
import Derived.Test.YtalcmiaohclnjaaBatchList
import Derived.Test.YtalcmiaohclnjaaBatchEnc
import Derived.Deep.Slices
import Derived.Deep.Fields
import Derived.ChangeSame
import Derived.OpenShut
namespace Go.Proofs.Ytalcmiaohclnjaa
open Go.ChangeShapes Go.WideShapes Go.ChangeAt Go.RowKit
set_option linter.unusedVariables false
set_option maxHeartbeats 1000000

theorem blarge_any (A : Option Addr) (c : Nat) (l : List Bt.Op) (hl : l.length ≤ maxLen) (hs : Sane l) (w : World) (hA : Ops w A l) :
    Calls Try.prog 11 #[.slice A l.length c] w fun e w' => ∃ B, e = .returned (.bool B) ∧ (B = false → Few l) ∧ Kept w w' := by
  unfold maxLen at hl
  have HS := Lib.hid hs; clear hs
  by_cases h40 : 40 < l.length
  · have d : decide ((40 : Int) < (l.length : Int)) = true := by simp; omega
    go_enter Try.func11, Try.ntmps11
    go_wp2_with fail
    go_ret
    exact ⟨true, rfl, fun e => (by cases e), Kept.refl _⟩
  · have d : decide ((40 : Int) < (l.length : Int)) = false := by simp; omega
    have h40' : l.length ≤ 40 := by omega
    clear h40 hl
    go_enter Try.func11, Try.ntmps11
    go_wp2_with fail
    go_loopw [9] (fun t wr => ∃ (k : Nat), k ≤ l.length ∧ t = .int .i64 k ∧ Hid (∀ x ∈ l.take k, x.key.length ≤ 300 ∧ x.val.length ≤ 300) ∧ wr = w) (fun t _ => l.length - (intOf t).toNat)
    case atStart => exact ⟨0, Nat.zero_le _, rfl, Lib.hid (fun x hx => by simp at hx), rfl⟩
    case round =>
      obtain ⟨k, hk, rfl, HF, rfl⟩ := hrel
      by_cases hlt : k < l.length
      · obtain ⟨x, hx⟩ : ∃ x, l[k]? = some x := ⟨_, List.getElem?_eq_getElem hlt⟩
        obtain ⟨b, o, rfl, hb, c0, c1, c2⟩ := hA k x hx
        have hz := HS.out x (List.mem_of_getElem? hx)
        unfold maxLen at hz
        have e1 := fbs_size x.key
        have e2 := fbs_size x.val
        have z1 : (bs x.key).size ≤ 9223372036854775807 := by omega
        have z2 : (bs x.val).size ≤ 9223372036854775807 := by omega
        by_cases h1 : 300 < x.key.length
        · have d1 : decide ((300 : Int) < ((bs x.key).size : Int)) = true := by simp; omega
          clear hx e1 e2
          go_wp2_with fail
          go_ret
          exact ⟨true, rfl, fun e => (by cases e), Kept.refl _⟩
        · have d1 : decide ((300 : Int) < ((bs x.key).size : Int)) = false := by simp; omega
          by_cases h2 : 300 < x.val.length
          · have d2 : decide ((300 : Int) < ((bs x.val).size : Int)) = true := by simp; omega
            clear hx e1 e2
            go_wp2_with fail
            go_ret
            exact ⟨true, rfl, fun e => (by cases e), Kept.refl _⟩
          · have d2 : decide ((300 : Int) < ((bs x.val).size : Int)) = false := by simp; omega
            have hn : ∀ y ∈ l.take (k + 1), y.key.length ≤ 300 ∧ y.val.length ≤ 300 := fun y hy => by
              rw [ballsnoc hx, List.mem_append] at hy
              rcases hy with hy | hy
              · exact HF.out y hy
              · simp at hy; rw [hy]; omega
            have HN := Lib.hid hn
            clear hx hn HF e1 e2
            go_wp2_with fail
            go_roundw
            case rel => exact ⟨k + 1, by omega, by go_num, HN, trivial⟩
            case measure => simp [intOf]; omega
      · have e : k = l.length := by omega
        subst e
        go_wp2_with fail
        go_ret
        refine ⟨false, rfl, fun _ => ⟨h40', fun x hx => HF.out x (by rw [List.take_length]; exact hx)⟩, Kept.refl _⟩
def L0 : List Bt.Op := [⟨false, [97], [120, 121]⟩, ⟨true, [98], []⟩]
def S0 : ByteArray := ⟨#[7, 2, 0, 1, 97, 2, 120, 121, 1, 1, 98]⟩
theorem enc0 : Bt.enc 7 L0 = [7, 2, 0, 1, 97, 2, 120, 121, 1, 1, 98] := by decide
theorem ok0 : Bt.ok 7 L0 = true := by decide
theorem few0 : Few L0 := ⟨by decide, fun x hx => by simp [L0] at hx; rcases hx with rfl | rfl <;> decide⟩
theorem ops0 {w : World} {b : Nat} (hb : b < w.heap.size) (h0 : w.cell? ⟨b, 0, none⟩ = some (.bool false)) (h1 : w.cell? ⟨b, 1, none⟩ = some (.string ⟨#[97]⟩)) (h2 : w.cell? ⟨b, 2, none⟩ = some (.string ⟨#[120, 121]⟩))
    (h3 : w.cell? ⟨b, 3, none⟩ = some (.bool true)) (h4 : w.cell? ⟨b, 4, none⟩ = some (.string ⟨#[98]⟩)) (h5 : w.cell? ⟨b, 5, none⟩ = some (.string ⟨#[]⟩)) : Ops w (some ⟨b, 0, none⟩) L0 := fun j x hx => by
  match j, hx with
  | 0, hx => simp [L0] at hx; subst hx; exact ⟨b, 0, rfl, hb, h0, h1, h2⟩
  | 1, hx => simp [L0] at hx; subst hx; exact ⟨b, 0, rfl, hb, h3, h4, h5⟩
theorem awake_enc (w : World) (b c : Nat) (h : Ops w (some ⟨b, 0, none⟩) L0) : Calls Try.prog 12 #[.int .u64 7, .slice (some ⟨b, 0, none⟩) 2 c] w fun e w' => e = .returned (.tuple #[.string ⟨#[7, 2, 0, 1, 97, 2, 120, 121, 1, 1, 98]⟩, .int .i64 0]) ∧ Kept w w' := by
  have := encode_ok 7 (some ⟨b, 0, none⟩) c L0 (by omega) (by omega) ok0 w h
  rw [show (7 : Int).toNat = 7 from rfl, enc0] at this
  exact this
theorem awake_enc0 (w : World) (b c : Nat) (h : Ops w (some ⟨b, 0, none⟩) L0) : Calls Try.prog 12 #[.int .u64 0, .slice (some ⟨b, 0, none⟩) 2 c] w fun e w' => e = .returned (.tuple #[.string ⟨#[]⟩, .int .i64 3]) ∧ Kept w w' :=
  encode_range 0 (some ⟨b, 0, none⟩) c L0 (by omega) (by omega) few0.sane (by decide) (by decide) w h
theorem awake_dec (w : World) : Calls Try.prog 20 #[.string ⟨#[7, 2, 0, 1, 97, 2, 120, 121, 1, 1, 98]⟩] w fun e w' => ∃ A c, e = .returned (.tuple #[.int .u64 7, .slice A 2 c, .int .i64 0]) ∧ Ops w' A L0 ∧ Kept w w' :=
  decode_some ⟨#[7, 2, 0, 1, 97, 2, 120, 121, 1, 1, 98]⟩ (by decide) (by show Bt.dec [7, 2, 0, 1, 97, 2, 120, 121, 1, 1, 98] = some (7, L0); rw [← enc0]; exact Bt.dec_enc ok0) w
theorem awake_dec2 (w : World) : Calls Try.prog 20 #[.string ⟨#[7, 2, 0, 1, 97, 2, 120, 121, 1, 1, 98, 63]⟩] w fun e w' => e = .returned (.tuple #[.int .u64 0, .slice none 0 0, .int .i64 2]) ∧ Kept w w' :=
  decode_none ⟨#[7, 2, 0, 1, 97, 2, 120, 121, 1, 1, 98, 63]⟩ (by decide) (by show Bt.dec ([7, 2, 0, 1, 97, 2, 120, 121, 1, 1, 98] ++ [63]) = none; rw [← enc0]; exact Bt.dec_more ok0 (by simp)) w
theorem awake_ent (w : World) (b c : Nat) (h : Ops w (some ⟨b, 0, none⟩) L0) : Calls Try.prog 14 #[.int .u64 7, .slice (some ⟨b, 0, none⟩) 2 c] w fun e w' => ∃ bl o c', e = .returned (.slice (some ⟨bl, o, none⟩) 2 c') ∧ bl < w'.heap.size ∧ w'.cell? ⟨bl, o + 4, none⟩ = some (.string ⟨#[98]⟩) ∧ w'.cell? ⟨bl, o + 5, none⟩ = some (.int .u64 8) ∧ w'.cell? ⟨bl, o + 6, none⟩ = some (.bool true) ∧ w'.cell? ⟨bl, o + 7, none⟩ = some (.string ⟨#[]⟩) ∧ Kept w w' := by
  refine (entries_any 7 (some ⟨b, 0, none⟩) c L0 (by omega) (by omega) (by decide) w h).mono ?_
  rintro e w' ⟨B, c', rfl, he, hk⟩
  obtain ⟨bl, o, rfl, hb, e0, e1, e2, e3⟩ := he 1 ⟨true, [98], []⟩ rfl
  exact ⟨bl, o, c', rfl, hb, e0, e1, e2, e3, hk⟩
theorem awake_may (w : World) (b c : Nat) (h : Ops w (some ⟨b, 0, none⟩) L0) : Calls Try.prog 16 #[.slice (some ⟨b, 0, none⟩) 2 c] w fun e w' => e = .returned (.bool true) ∧ Kept w w' :=
  may_any (some ⟨b, 0, none⟩) c L0 (by decide) few0.sane w h
theorem awake_may0 (w : World) : Calls Try.prog 16 #[.slice none 0 0] w fun e w' => e = .returned (.bool false) ∧ Kept w w' :=
  may_any none 0 [] (by decide) (fun x hx => by simp at hx) w (fun j x hx => by simp at hx)
theorem awake_size (w : World) (b c : Nat) (h : Ops w (some ⟨b, 0, none⟩) L0) : Calls Try.prog 18 #[.slice (some ⟨b, 0, none⟩) 2 c] w fun e w' => e = .returned (.int .i64 4) ∧ Kept w w' :=
  size_any (some ⟨b, 0, none⟩) c L0 few0 w h
theorem awake_same (w : World) (b c c' : Nat) (A : Option Addr) (h : Ops w (some ⟨b, 0, none⟩) L0) (h2 : Ops w A L0) : Calls Try.prog 19 #[.slice (some ⟨b, 0, none⟩) 2 c, .slice A 2 c'] w fun e w' => e = .returned (.bool true) ∧ Kept w w' := by
  have := same_any (some ⟨b, 0, none⟩) A c c' L0 L0 (by decide) (by decide) w h h2
  rw [decide_eq_true rfl] at this
  exact this
set_option maxRecDepth 100000 in
set_option maxHeartbeats 4000000 in
theorem bawake_any (w : World) : Calls Try.prog 10 #[] w fun e w' => e = .returned (.bool true) ∧ Kept w w' := by
  go_enter Try.func10, Try.ntmps10
  go_wp2_with fail
  have hA := ops0 (w := w.alloc (.cells #[.bool false, .string ⟨#[97]⟩, .string ⟨#[120, 121]⟩, .bool true, .string ⟨#[98]⟩, .string ⟨#[]⟩] 34)) (b := w.heap.size) (by simp) (by simp) (by simp) (by simp) (by simp) (by simp) (by simp)
  have HA := Lib.hid hA; clear hA
  refine (awake_enc _ _ _ HA.out).mono ?_
  rintro e w1 ⟨rfl, g1⟩
  have A1 := Lib.hid (HA.out.kept g1)
  go_wp2_with fail
  refine (awake_dec _).mono ?_
  rintro e w2 ⟨A, c, rfl, hL, g2⟩
  have A2 := Lib.hid (A1.out.kept g2); have L2 := Lib.hid hL; clear hL
  go_wp2_with fail
  refine (awake_dec2 _).mono ?_
  rintro e w3 ⟨rfl, g3⟩
  have A3 := Lib.hid (A2.out.kept g3)
  go_wp2_with fail
  refine (awake_enc0 _ _ _ A3.out).mono ?_
  rintro e w4 ⟨rfl, g4⟩
  have A4 := Lib.hid (A3.out.kept g4)
  go_wp2_with fail
  refine (awake_ent _ _ _ A4.out).mono ?_
  rintro e w5 ⟨bl, o, c', rfl, hbl, x0, x1, x2, x3, g5⟩
  have A5 := Lib.hid (A4.out.kept g5)
  have L5 := Lib.hid (L2.out.kept (kept_trans g3 (kept_trans g4 g5)))
  go_wp2_with fail
  refine (awake_same _ _ _ _ _ A5.out L5.out).mono ?_
  rintro e w6 ⟨rfl, g6⟩
  have y0 := bkc1 _ _ g6 x0
  have y1 := bkc1 _ _ g6 x1
  have y2 := bkc1 _ _ g6 x2
  have y3 := bkc1 _ _ g6 x3
  have A6 := Lib.hid (A5.out.kept g6)
  clear x0 x1 x2 x3
  go_wp2_with fail
  refine (awake_may _ _ _ A6.out).mono ?_
  rintro e w7 ⟨rfl, g7⟩
  have A7 := Lib.hid (A6.out.kept g7)
  go_wp2_with fail
  refine (awake_may0 _).mono ?_
  rintro e w8 ⟨rfl, g8⟩
  have A8 := Lib.hid (A7.out.kept g8)
  go_wp2_with fail
  refine (awake_size _ _ _ A8.out).mono ?_
  rintro e w9 ⟨rfl, g9⟩
  go_wp2_with fail
  go_ret
  exact ⟨rfl, kept_trans ((Kept.refl _).alloc _) (kept_trans g1 (kept_trans g2 (kept_trans g3 (kept_trans g4 (kept_trans g5 (kept_trans g6 (kept_trans g7 (kept_trans g8 g9))))))))⟩
theorem badd_at (b o i : Nat) : (⟨b, o, none⟩ : Addr).add i = ⟨b, o + i, none⟩ := by
  unfold Addr.add; split <;> simp_all
theorem badd_zero (a : Addr) : a.add 0 = a := by unfold Addr.add; simp
theorem baddr_at {w : World} {a : Addr} {v : Value} (h : w.cell? a = some v) : ∃ b o, a = ⟨b, o, none⟩ ∧ b < w.heap.size := by
  have hlt := World.block_lt_of_cell? w _ h
  obtain ⟨b, o, s⟩ := a
  cases s with
  | none => exact ⟨b, o, rfl, hlt⟩
  | some q =>
    unfold World.cell? at h
    split at h
    · simp at h
    · cases h
theorem bcellsOp : Try.prog.cellsOf 34 = 3 := by kernel_rfl
theorem bcellsStr : Try.prog.cellsOf 9 = 1 := by kernel_rfl
theorem bcellsBool : Try.prog.cellsOf 4 = 1 := by kernel_rfl
section
variable {H : Type} {enc : TypeId × Value → H} {w : World}
theorem open_op {n : Nat} {b o : Nat} {cs : List Value} {y : DataW H × List MemPlace} (hcl : cs.length = 3) (hat : ∀ j, j < 3 → w.cell? ⟨b, o + j, none⟩ = cs[j]?) (ht : DataW.trod enc Try.prog w 0 (fun _ => true) true n 34 cs = some y) :
    ∃ x : Bt.Op, (w.cell? ⟨b, o, none⟩ = some (.bool x.del) ∧ w.cell? ⟨b, o + 1, none⟩ = some (.string (bs x.key)) ∧ w.cell? ⟨b, o + 2, none⟩ = some (.string (bs x.val))) ∧ x.key.length ≤ maxLen ∧ x.val.length ≤ maxLen := by
  obtain ⟨ys, n', _, _, _, hyl, hf⟩ := DataW.trod_struct Try.underlying34 ht
  match cs, hcl with
  | [v0, v1, v2], _ =>
    have f0 := hf 0 _ rfl
    have f1 := hf 1 _ rfl
    have f2 := hf 2 _ rfl
    change DataW.trod enc Try.prog w 0 (fun _ => true) true n' 4 (List.take (Try.prog.cellsOf 4) [v0, v1, v2]) = _ at f0
    change DataW.trod enc Try.prog w 0 (fun _ => true) true n' 9 (List.take (Try.prog.cellsOf 9) [v1, v2]) = _ at f1
    change DataW.trod enc Try.prog w 0 (fun _ => true) true n' 9 (List.take (Try.prog.cellsOf 9) [v2]) = _ at f2
    rw [bcellsBool] at f0
    rw [bcellsStr] at f1 f2
    simp only [List.take_succ_cons, List.take_zero] at f0 f1 f2
    have hyl5 : ys.length = 3 := hyl
    rw [List.getElem?_eq_getElem (show 0 < ys.length by omega)] at f0
    rw [List.getElem?_eq_getElem (show 1 < ys.length by omega)] at f1
    rw [List.getElem?_eq_getElem (show 2 < ys.length by omega)] at f2
    obtain ⟨d, e0, _⟩ := DataW.trod_bool Try.underlying4 f0
    obtain ⟨sa, e1, _, hsa⟩ := DataW.trod_string Try.underlying9 f1
    obtain ⟨sb, e2, _, hsb⟩ := DataW.trod_string Try.underlying9 f2
    injection e0 with e0; injection e1 with e1; injection e2 with e2
    subst e0 e1 e2
    refine ⟨⟨d, sa.data.toList, sb.data.toList⟩, ⟨?_, ?_, ?_⟩, by simp only [toList_size]; exact hsa, by simp only [toList_size]; exact hsb⟩
    · exact hat 0 (by omega)
    · rw [fbs_self]; exact hat 1 (by omega)
    · rw [fbs_self]; exact hat 2 (by omega)
/-- a list of operations that comes in -/
theorem open_ops {fuel : Nat} {cs : List Value} {x : DataW H × List MemPlace} (h : DataW.trod enc Try.prog w 0 (fun _ => true) true fuel 23 cs = some x) :
    ∃ (A : Option Addr) (cap : Nat) (l : List Bt.Op), cs = [.slice A l.length cap] ∧ Ops w A l ∧ l.length ≤ maxLen ∧ Sane l ∧ l.length ≤ cap ∧ cap ≤ maxLen ∧ (A = none → cap = 0) := by
  rcases Deep.open_slice Try.underlying23 h with ⟨rfl, _⟩ | ⟨a, len, cap, m, n, D, Pl, rfl, _, hl, hm, hmm, _, hi⟩
  · exact ⟨none, 0, [], rfl, fun j x hx => by simp at hx, by simp, fun x hx => by simp at hx, by simp, by simp, fun _ => rfl⟩
  · rw [if_pos rfl] at hmm
    rw [bcellsOp] at hi
    have key : ∀ i, i < len → ∃ (x : Bt.Op) (b o : Nat), a = ⟨b, o, none⟩ ∧ b < w.heap.size ∧ (w.cell? ⟨b, o + i * 3, none⟩ = some (.bool x.del) ∧ w.cell? ⟨b, o + i * 3 + 1, none⟩ = some (.string (bs x.key)) ∧ w.cell? ⟨b, o + i * 3 + 2, none⟩ = some (.string (bs x.val))) ∧ x.key.length ≤ maxLen ∧ x.val.length ≤ maxLen := fun i hil => by
      obtain ⟨cs0, hc0, _⟩ := hi 0 (by omega)
      obtain ⟨_, hcl0, hat0⟩ := World.cells?_some hc0
      have h00 := hat0 0 (by omega)
      rw [Nat.zero_mul, badd_zero, badd_zero, List.getElem?_eq_getElem (show 0 < cs0.length by omega)] at h00
      obtain ⟨b, o, rfl, hbl⟩ := baddr_at h00
      obtain ⟨cs', hc, ht⟩ := hi i (by omega)
      obtain ⟨_, hcl, hat⟩ := World.cells?_some hc
      obtain ⟨x, hx⟩ := open_op (o := o + i * 3) hcl (fun j hj => by rw [← hat j hj, badd_at, badd_at]) ht
      exact ⟨x, b, o, rfl, hbl, hx⟩
    have hch : ∀ i, ∃ x : Bt.Op, i < len → ∃ b o, a = ⟨b, o, none⟩ ∧ b < w.heap.size ∧ (w.cell? ⟨b, o + i * 3, none⟩ = some (.bool x.del) ∧ w.cell? ⟨b, o + i * 3 + 1, none⟩ = some (.string (bs x.key)) ∧ w.cell? ⟨b, o + i * 3 + 2, none⟩ = some (.string (bs x.val))) ∧ x.key.length ≤ maxLen ∧ x.val.length ≤ maxLen := fun i => by
      by_cases hil : i < len
      · obtain ⟨x, r⟩ := key i hil
        exact ⟨x, fun _ => r⟩
      · exact ⟨⟨false, [], []⟩, fun hh => absurd hh hil⟩
    obtain ⟨f, hf⟩ := Classical.axiomOfChoice hch
    have hlen : ((List.range len).map f).length = len := by simp
    have hat : ∀ i x, ((List.range len).map f)[i]? = some x → i < len ∧ f i = x := fun i x hx => by
      have hil : i < len := by
        have := (List.getElem?_eq_some_iff.1 hx).1
        rw [hlen] at this; exact this
      exact ⟨hil, by simpa [hil] using hx⟩
    refine ⟨some a, cap, (List.range len).map f, by rw [hlen], fun i x hx => ?_, by rw [hlen]; omega, fun x hx => ?_, by rw [hlen]; exact hl, hm, fun e => by cases e⟩
    · obtain ⟨hil, hfx⟩ := hat i x hx
      obtain ⟨b, o, e, hb, hc, _⟩ := hf i hil
      rw [hfx] at hc
      exact ⟨b, o, by rw [e], hb, hc⟩
    · obtain ⟨i, hi'⟩ := List.getElem?_of_mem hx
      obtain ⟨hil, hfx⟩ := hat i x hi'
      obtain ⟨b, o, e, hb, _, hc⟩ := hf i hil
      rw [hfx] at hc
      exact hc
end
end Go.Proofs.Ytalcmiaohclnjaa
