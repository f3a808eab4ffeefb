/-
  BloomFull of the statements of layer 10 returns true, whatever keys.
-/
import Derived.Test.YtpbhbgoaaephgaaBloomLawHas
import Derived.Maps.OwnSet
import Derived.Maps.Views
namespace Go.Proofs.Ytpbhbgoaaephgaa
open Go.ChangeShapes Go.WideShapes Go.ChangeAt Go.RowKit Go.Maps
set_option linter.unusedVariables false
set_option maxRecDepth 100000
set_option maxHeartbeats 1000000

theorem bkeyedI : Keyed Try.prog 3 := int_keyed Try.underlying3
theorem bwf_i64 {n : Nat} (h : n ≤ 9223372036854775807) : (Lit.int .i64 (n : Int)).wf = true := by
  show (decide (IntKind.i64.min ≤ (n : Int)) && decide ((n : Int) ≤ IntKind.i64.max)) = true
  rw [show IntKind.i64.min = -9223372036854775808 from rfl, show IntKind.i64.max = 9223372036854775807 from rfl, Bool.and_eq_true, decide_eq_true_iff, decide_eq_true_iff]
  omega
theorem bkey {n : Nat} (h : n ≤ 9223372036854775807) : keyOf Try.prog 3 (.int .i64 (n : Int)) = some (.int .i64 (n : Int)) := keyOf_int_mk Try.underlying3 (bwf_i64 h)
theorem bTrue : plainElem Try.prog 4 (.bool true) = some ((.lit (.bool true) : DataW Unit), []) := plainElem_bool Try.underlying4 true
/-- the bits that a law has met, as a map -/
structure BiIs (w : World) (b N : Nat) (L : List Nat) : Prop where
  ex : ∃ D : DataW Unit, w.ownsMap Try.prog 3 (plainElem Try.prog 4) b L.length D ∧ Maps.size D = Bm.full (Bm.fil N L) ∧ ∀ k : Nat, Maps.has D (.int .i64 (k : Int)) = decide (k ∈ L)
theorem BiIs.same {w w' : World} {b N : Nat} {L : List Nat} (h : BiIs w b N L) (k : w'.heap[b]? = w.heap[b]?) : BiIs w' b N L := by
  obtain ⟨D, ⟨es, cl, hb, r⟩, h2⟩ := h.ex
  exact ⟨D, ⟨es, cl, k.trans hb, r⟩, h2⟩
theorem BiIs.lt {w : World} {b N : Nat} {L : List Nat} (h : BiIs w b N L) : b < w.heap.size := by
  obtain ⟨D, h1, _⟩ := h.ex; exact h1.lt
theorem BiIs.kept {w w' : World} {b N : Nat} {L : List Nat} (h : BiIs w b N L) (k : Kept w w') : BiIs w' b N L := h.same (Below.block k b h.lt)
theorem biIs_new (w : World) (N : Nat) : BiIs (w.alloc (.map #[] 0)) w.heap.size N [] :=
  ⟨.map [], World.ownsMap_made w Try.prog 3 _, (Bm.full_none N).symm, fun k => rfl⟩
theorem BiIs.store {w : World} {b N : Nat} {L : List Nat} (h : BiIs w b N L) (hf : L.length ≤ 100000) (hN : N ≤ 100000) (hL : ∀ y ∈ L, y < 8 * N) (x : Nat) (hx : x < 8 * N) :
    ∃ w', (Instr.mapUpdate 39 (.map (some b)) (.int .i64 (x : Int)) (.bool true)).run Try.prog w = .ok () w' ∧ BiIs w' b N (L ++ [x]) ∧ w.grownBy w' (some b) ∧ w'.heap.size = w.heap.size := by
  obtain ⟨D, h1, h2, h3⟩ := h.ex
  have htidy := h1.tidy bkeyedI
  have hkl := bkeyedI.key (bkey (n := x) (by omega))
  obtain ⟨w', hrun, ho, hturn⟩ := h1.store bkeyedI Try.underlying39 (by unfold maxLen; omega) (bkey (n := x) (by omega)) bTrue
  refine ⟨w', hrun, ⟨⟨D.put (.int .i64 (x : Int)) (.lit (.bool true)), ?_, ?_, fun k => ?_⟩⟩, hturn.grown, ?_⟩
  · rw [List.length_append]; exact ho
  · rw [Maps.size_put htidy, h3, Bm.fil_snoc, Bm.full_set _ _ (by rw [Bm.fil_len]; exact hx), Bm.fil_has N L hL, h2]
    by_cases hm : x ∈ L
    · rw [decide_eq_true hm]; rfl
    · rw [decide_eq_false hm]; rfl
  · by_cases hk : k = x
    · subst hk
      rw [Maps.has_put_same htidy.isMap hkl, decide_eq_true (by simp)]
    · rw [Maps.has_put_other (fun q => hk (by injection q with _ q; omega)), h3]
      congr 1
      simp [hk]
  · obtain ⟨es, clock, es', clock', _, rfl⟩ := hturn
    simp [ChangeMaps.setBlock]
theorem BiIs.len {w : World} {b N : Nat} {L : List Nat} (h : BiIs w b N L) (ty : TypeId) : (Builtin.len_ #[39] ty #[.map (some b)]).run Try.prog w = .ok (.int .i64 (Bm.full (Bm.fil N L) : Nat)) w := by
  obtain ⟨D, h1, h2, _⟩ := h.ex
  have := h1.len Try.underlying39 ty
  rw [h2] at this
  exact this
theorem bkept_store {w wr w9 : World} {q : Nat} (h : Kept w wr) (g : wr.grownBy w9 (some q)) (hq : w.heap.size ≤ q) : Kept w w9 :=
  Below.trans h ⟨g.os, g.tape, g.output, g.size, fun i hi => g.block i (by have := Below.size h; omega) (fun e => by cases e; omega)⟩
theorem Ins.grown {w w' : World} {A : Option Addr} {l : List Nat} {q : Nat} (h : Ins w A l) (g : w.grownBy w' (some q)) (hq : ∀ b o, A = some ⟨b, o, none⟩ → b ≠ q) : Ins w' A l := fun j x hx => by
  obtain ⟨b, o, e, hb, hc⟩ := h j x hx
  have hne := hq b o e
  refine ⟨b, o, e, Nat.lt_of_lt_of_le hb g.size, ?_⟩
  rw [← hc]
  simp only [World.cell?]
  rw [g.block b hb (fun e => hne (by cases e; rfl))]
theorem btest1 (v : UInt8) (k : Nat) : (bits BinOp.and IntKind.u8 (((v.toNat : Nat) : Int) / 2 ^ k) 1 != 1) = !(v.toNat.testBit k) := by
  have h0 := btest v k
  have hv := v.toNat_lt
  have h1 : v.toNat / 2 ^ k < 256 := Nat.lt_of_le_of_lt (Nat.div_le_self _ _) hv
  have e : (((v.toNat : Nat) : Int) / 2 ^ k) = ((v.toNat / 2 ^ k : Nat) : Int) := by rw [Int.natCast_ediv, Int.natCast_pow]; rfl
  rw [e, show (1 : Int) = ((1 : Nat) : Int) from rfl, u8_and_nat _ _ h1 (by decide)] at h0 ⊢
  rw [← h0, Nat.and_one_is_mod]
  rcases Nat.mod_two_eq_zero_or_one (v.toNat / 2 ^ k) with h | h <;> rw [h] <;> rfl
theorem BloomFull_walk {w : World} (A : Option Addr) (c : Nat) (l : List (List UInt8)) (hA : Txs w A l) (hl : l.length ≤ maxLen ∧ (∀ x ∈ l, x.length ≤ maxLen) ∧ l.length ≤ c ∧ c ≤ maxLen) :
    Calls Try.prog 8 #[.slice A l.length c] w fun e w' => e = .returned (.bool true) ∧ Kept w w' := by
  obtain ⟨hl1, hl2, _⟩ := hl
  have hmk := bmake_any A c l hl1 hl2
  have hlg := bmlarge_any A c l hl1 hl2
  have HX := Lib.hid hl2; clear hl2
  have hlm : l.length ≤ 9223372036854775807 := by unfold maxLen at hl1; omega
  by_cases hbig : 1000 < l.length
  · have d : decide ((1000 : Int) < (l.length : Int)) = true := by simp; omega
    clear hmk
    go_enter Try.func8, Try.ntmps8
    go_wp2_with fail
    refine (bmawake_any _).mono ?_
    rintro e w1 ⟨rfl, g1⟩
    go_wp2_with fail
    refine (hlg _ (hA.kept g1)).mono ?_
    rintro e w2 ⟨B, rfl, g2⟩
    cases B <;> (go_wp2_with fail; go_ret; exact ⟨rfl, kept_trans g1 g2⟩)
  · have d : decide ((1000 : Int) < (l.length : Int)) = false := by simp; omega
    obtain ⟨e1, e2⟩ := makeS_few l (by omega)
    have hF := Bm.made_len l
    have hcf := bfull_any (bs (Bm.made l)) (by rw [fbs_size]; omega)
    rw [bs_data] at hcf
    have hFsz : (bs (Bm.made l)).size = l.length + 1 := by rw [fbs_size, hF]
    have hhas : ∀ x, x ∈ Bm.all l (8 * (l.length + 1)) → ∀ h : x / 8 < (bs (Bm.made l)).size, (((bs (Bm.made l))[x / 8]'h).toNat.testBit (x % 8)) = true := fun x hx h => by
      rw [← bhas_at _ _ h, bs_data, Bm.made_has, decide_eq_true hx]
    have hfin : Bm.full (Bm.fil (l.length + 1) (Bm.all l (8 * (l.length + 1)))) = Bm.full (Bm.made l) := rfl
    rw [e1, e2] at hmk
    have HFIN := Lib.hid hfin; have HHAS := Lib.hid hhas; have HMK := Lib.hid hmk
    generalize hFF : bs (Bm.made l) = FB at *
    clear hFF
    generalize Bm.full (Bm.made l) = NF at *
    clear hF e1 e2 hhas hfin hmk
    go_enter Try.func8, Try.ntmps8
    go_wp2_with fail
    refine (bmawake_any _).mono ?_
    rintro e w1 ⟨rfl, g1⟩
    go_wp2_with fail
    refine (hlg _ (hA.kept g1)).mono ?_
    rintro e w2 ⟨B, rfl, g2⟩
    have hA2 := (hA.kept g1).kept g2
    cases B with
    | true =>
      go_wp2_with fail
      go_ret
      exact ⟨rfl, kept_trans g1 g2⟩
    | false =>
      go_wp2_with fail
      refine (HMK.out _ hA2).mono ?_
      rintro e w3 ⟨rfl, g3⟩
      have hA3 := hA2.kept g3
      have G := kept_trans (kept_trans g1 g2) g3
      clear hlg hA hA2 g1 g2 g3
      have hmk : ∀ W : World, (Instr.makeMap 39 none).run Try.prog W = .ok (.map (some W.heap.size)) (W.alloc (.map #[] 0)) := fun _ => rfl
      go_wp2_with fail
      go_loopw [26] (fun t wr => ∃ k : Nat, k ≤ l.length ∧ t = .int .i64 k ∧ BiIs wr w3.heap.size (l.length + 1) (Bm.all (l.take k) (8 * (l.length + 1))) ∧ Kept w3 wr) (fun t _ => l.length - (intOf t).toNat)
      case atStart => exact ⟨0, Nat.zero_le _, rfl, biIs_new w3 _, (Kept.refl _).alloc _⟩
      case round =>
        obtain ⟨k, hk, rfl, hmap, hkr⟩ := hrel
        by_cases hlt : k < l.length
        · have hx : l[k]? = some l[k] := List.getElem?_eq_getElem hlt
          have hxl := HX.out l[k] (List.getElem_mem hlt)
          have hnx : Bm.all (l.take (k + 1)) (8 * (l.length + 1)) = Bm.all (l.take k) (8 * (l.length + 1)) ++ Bm.bits l[k] (8 * (l.length + 1)) := by
            rw [List.take_add_one, hx]; exact Bm.all_snoc _ _ _
          have hsub : ∀ x ∈ Bm.all (l.take k) (8 * (l.length + 1)) ++ Bm.bits l[k] (8 * (l.length + 1)), x ∈ Bm.all l (8 * (l.length + 1)) := fun x hx2 => by
            rw [← hnx, Bm.all_mem] at hx2
            obtain ⟨q, hq, hb⟩ := hx2
            exact Bm.all_mem.2 ⟨q, List.mem_of_mem_take hq, hb⟩
          have hPl := Bm.all_len (l.take k) (8 * (l.length + 1))
          have hPt : (l.take k).length ≤ 1000 := by rw [List.length_take]; omega
          obtain ⟨b, o, rfl, hb, hcell⟩ := (hA3.kept hkr) k _ hx
          generalize l[k] = y at *
          have hbit := bbits_any (bs y) (by rw [fbs_size]; exact hxl) (8 * ((l.length : Int) + 1)) (by omega) (by omega)
          rw [bs_data, show (8 * ((l.length : Int) + 1)).toNat = 8 * (l.length + 1) by omega] at hbit
          have hl4 : (Bm.bits y (8 * (l.length + 1))).length ≤ 4 := by rw [Bm.bits_len]; split <;> omega
          have hmlt := hmap.lt
          have HNX := Lib.hid hnx; have HSUB := Lib.hid hsub; have HMAP := Lib.hid hmap
          clear hnx hx hmap hsub
          generalize Bm.bits y (8 * (l.length + 1)) = L at *
          generalize Bm.all (l.take k) (8 * (l.length + 1)) = P at *
          have hPl2 : P.length ≤ 4000 := by omega
          clear hPl hPt
          go_wp2_with fail
          refine (hbit _).mono ?_
          rintro e w4 ⟨A1, c1, rfl, hI, hfar, g4⟩
          go_wp2_with fail
          go_loopw [39] (fun t wi => ∃ j : Nat, j ≤ L.length ∧ t = .int .i64 j ∧ BiIs wi w3.heap.size (l.length + 1) (P ++ L.take j) ∧ Ins wi A1 L ∧ Kept w3 wi) (fun t _ => L.length - (intOf t).toNat)
          case atStart => exact ⟨0, Nat.zero_le _, rfl, by rw [List.take_zero, List.append_nil]; exact HMAP.out.kept g4, hI, kept_trans hkr g4⟩
          case round =>
            obtain ⟨j, hj, rfl, hmapi, hIi, hki⟩ := hrel
            by_cases hj2 : j < L.length
            · have hx : L[j]? = some L[j] := List.getElem?_eq_getElem hj2
              have hmem : L[j] ∈ L := List.getElem_mem hj2
              have hnj : P ++ L.take (j + 1) = (P ++ L.take j) ++ [L[j]] := by rw [List.take_add_one, hx, List.append_assoc]; rfl
              have hin := HSUB.out L[j] (by simp [hmem])
              generalize L[j] = x at hx hmem hnj hin
              have hx8 := Bm.all_lt l _ x hin
              obtain ⟨b1, o1, rfl, hb1, hc1⟩ := hIi j x hx
              have hne := hfar b1 o1 rfl
              obtain ⟨w9, hrun, hq9, g9, z9⟩ := hmapi.store (by rw [List.length_append, List.length_take]; omega) (by omega) (fun y hy => by
                refine Bm.all_lt l _ y (HSUB.out y ?_)
                rcases List.mem_append.1 hy with h | h
                · exact List.mem_append.2 (.inl h)
                · exact List.mem_append.2 (.inr (List.mem_of_mem_take h))) x hx8
              rw [← hnj] at hq9
              have hI9 := hIi.grown g9 (fun b o e => by cases e; omega)
              have hk9 := bkept_store hki g9 (Nat.le_refl _)
              have t1 : decide ((x : Int) < 0) = false := by simp
              have h8 : x / 8 < FB.size := by omega
              have t2 : decide ((FB.size : Int) ≤ (x : Int) / 8) = false := by simp; omega
              have hbt := btest1 FB[x / 8] (x % 8)
              rw [HHAS.out x hin h8] at hbt
              simp only [Bool.not_true] at hbt
              have HQ9 := Lib.hid hq9; have HI9 := Lib.hid hI9; have HK9 := Lib.hid hk9
              clear hq9 hI9 hk9 hnj hin hmem hx hmapi
              go_wp2_with fail
              go_roundw
              case rel => exact ⟨j + 1, by omega, by go_num, HQ9.out, HI9.out, HK9.out⟩
              case measure => simp [intOf]; omega
            · have e : j = L.length := by omega
              subst e
              rw [List.take_length, ← HNX.out] at hmapi
              go_wp2_with fail
              go_roundw
              case rel => exact ⟨k + 1, by omega, by go_num, hmapi, hki⟩
              case measure => simp [intOf]; omega
        · have e : k = l.length := by omega
          subst e
          rw [List.take_length] at hmap
          have hlen := hmap.len 3
          rw [HFIN.out] at hlen
          go_wp2_with fail
          refine (hcf _).mono ?_
          rintro e w4 ⟨rfl, rfl⟩
          go_wp2_with fail
          go_ret
          exact ⟨rfl, kept_trans G hkr⟩
end Go.Proofs.Ytpbhbgoaaephgaa
