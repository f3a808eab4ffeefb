/-
  The walk of screelaw09.BlockReads.
-/
import Derived.Test.YtpnabojfliphpaaBlockRefDec
namespace Go.Proofs.Ytpnabojfliphpaa
open Go.ChangeShapes Go.WideShapes Go.ChangeAt Go.RowKit
set_option linter.unusedVariables false
set_option maxRecDepth 100000
set_option maxHeartbeats 4000000

theorem skV_form (O : Option (List Mm.Ent)) (k : List UInt8) (s : Nat) : ∃ (x : Mm.Ent) (i : Bool) (g : Int), skV O k s = .tuple #[.agg #[.string (bs x.key), .int .u64 (x.seq : Nat), .bool x.del, .string (bs x.val)], .bool i, .int .i64 g] := by
  cases O with
  | none => exact ⟨Mm.zent, false, 2, rfl⟩
  | some l =>
    cases h : sk l k s with
    | none => exact ⟨Mm.zent, false, 0, by simp only [skV]; rw [h]; rfl⟩
    | some x => exact ⟨x, true, 0, by simp only [skV]; rw [h]; rfl⟩
theorem BlockReads_walk (S1 S2 : ByteArray) (a1 : Int) {w : World} (hS1 : S1.size ≤ maxLen) (hS2 : S2.size ≤ maxLen) (h1 : (Lit.int .u64 a1).wf = true) :
    Calls Try.prog 4 #[.string S1, .string S2, .int .u64 a1] w fun e w' => e = .returned (.bool true) ∧ Kept w w' := by
  have b1 := bounds_u64 h1
  obtain ⟨n, rfl⟩ : ∃ s : Nat, a1 = (s : Int) := ⟨a1.toNat, by omega⟩
  obtain ⟨s, rfl, es⟩ := bs_back S1
  obtain ⟨k, rfl, ek⟩ := bs_back S2
  unfold maxLen at hS1 hS2
  clear h1
  by_cases h3 : 8192 < (bs s).size
  · have d3 : decide ((8192 : Int) < ((bs s).size : Int)) = true := decide_eq_true (by omega)
    clear es ek
    go_enter Try.func4, Try.ntmps4
    go_wp2_with fail
    refine (kawake_any w).mono ?_
    rintro e w1 ⟨rfl, g1⟩
    go_wp2_with fail
    go_ret
    exact ⟨rfl, g1⟩
  · have d3 : decide ((8192 : Int) < ((bs s).size : Int)) = false := decide_eq_false (by omega)
    by_cases h4 : 300 < (bs k).size
    · have d4 : decide ((300 : Int) < ((bs k).size : Int)) = true := decide_eq_true (by omega)
      clear es ek
      go_enter Try.func4, Try.ntmps4
      go_wp2_with fail
      refine (kawake_any w).mono ?_
      rintro e w1 ⟨rfl, g1⟩
      go_wp2_with fail
      go_ret
      exact ⟨rfl, g1⟩
    · have d4 : decide ((300 : Int) < ((bs k).size : Int)) = false := decide_eq_false (by omega)
      have hs : s.length ≤ 8192 := by omega
      have hsk := kseek_any s k n hs
      have hrsk := krseek_any s k n hs
      obtain ⟨x, i, g, hf⟩ := skV_form (Bk.dec s) k n
      rw [hf] at hsk hrsk
      have HSK := Lib.hid hsk; have HRSK := Lib.hid hrsk
      have HCT := Lib.hid (kcount_any s (by omega)); have HRCT := Lib.hid (krcount_any s (by omega))
      have HDN := Lib.hid (fun h => kdecode_none hs h); have HDS := Lib.hid (fun l h => kdecode_some (l := l) hs h)
      have HRN := Lib.hid (fun h => krdecode_none hs h); have HRS := Lib.hid (fun l h => krdecode_some (l := l) hs h)
      have H32 := Lib.hid (fun l (h : Bk.dec s = some l) => (Bk.isB_iff.1 (Bk.dec_back h).1).2.1)
      generalize Bk.count s = C at *
      clear hsk hrsk hf es ek
      cases hd : Bk.dec s with
      | none =>
        have HD := Lib.hid (HDN.out hd); have HR := Lib.hid (HRN.out hd)
        clear hd HDN HDS HRN HRS H32
        go_enter Try.func4, Try.ntmps4
        go_wp2_with fail
        refine (kawake_any w).mono ?_
        rintro e w1 ⟨rfl, g1⟩
        go_wp2_with fail
        refine (HD.out _).mono ?_
        rintro e w2 ⟨rfl, g2⟩
        go_wp2_with fail
        refine (HR.out _).mono ?_
        rintro e w3 ⟨rfl, g3⟩
        have G3 := Lib.hid (kept_trans g1 (kept_trans g2 g3))
        clear g1 g2 g3
        go_wp2_with fail
        refine (HSK.out _).mono ?_
        rintro e w4 ⟨rfl, g4⟩
        have HX := Lib.hid (malloc_new w4 (.cells #[.string (bs x.key), .int .u64 (x.seq : Nat), .bool x.del, .string (bs x.val)] 35))
        have G4 := Lib.hid (kept_trans g4 ((Kept.refl w4).alloc (.cells #[.string (bs x.key), .int .u64 (x.seq : Nat), .bool x.del, .string (bs x.val)] 35)))
        clear g4
        go_wp2_with fail
        refine (HRSK.out _).mono ?_
        rintro e w5 ⟨rfl, g5⟩
        have HY := Lib.hid (malloc_new w5 (.cells #[.string (bs x.key), .int .u64 (x.seq : Nat), .bool x.del, .string (bs x.val)] 35))
        have hx5 := (Below.block (kept_trans g5 ((Kept.refl w5).alloc (.cells #[.string (bs x.key), .int .u64 (x.seq : Nat), .bool x.del, .string (bs x.val)] 35))) _ (mheap_lt HX.out)).trans HX.out
        have HX5 := Lib.hid hx5
        have G5 := Lib.hid (kept_trans G4.out (kept_trans g5 ((Kept.refl w5).alloc (.cells #[.string (bs x.key), .int .u64 (x.seq : Nat), .bool x.del, .string (bs x.val)] 35))))
        have HSM := Lib.hid (msame_eq (A1 := none) (A2 := none) (l := []) (m := []) (c1 := 0) (c2 := 0) (w := w5.alloc (.cells #[.string (bs x.key), .int .u64 (x.seq : Nat), .bool x.del, .string (bs x.val)] 35)) (fun j y hy => by simp at hy) (fun j y hy => by simp at hy) rfl rfl (by simp) rfl)
        clear g5 hx5
        go_wp2_with fail
        refine HSM.out.mono ?_
        rintro e w6 ⟨rfl, g6⟩
        have hx6 := (Below.block g6 _ (mheap_lt HX5.out)).trans HX5.out
        have hy6 := (Below.block g6 _ (mheap_lt HY.out)).trans HY.out
        have x0 := blk_cell hx6 0; have x1 := blk_cell hx6 1; have x2 := blk_cell hx6 2; have x3 := blk_cell hx6 3
        have y0 := blk_cell hy6 0; have y1 := blk_cell hy6 1; have y2 := blk_cell hy6 2; have y3 := blk_cell hy6 3
        simp only [List.getElem?_toArray, List.getElem?_cons_zero, List.getElem?_cons_succ] at x0 x1 x2 x3 y0 y1 y2 y3
        have G6 := Lib.hid g6
        clear hx6 hy6 g6
        go_wp2_with fail
        refine (HCT.out _).mono ?_
        rintro e w7 ⟨rfl, rfl⟩
        go_wp2_with fail
        refine (HRCT.out _).mono ?_
        rintro e w8 ⟨rfl, rfl⟩
        go_wp2_with fail
        go_ret
        exact ⟨ret_bool (by simp), kept_trans G3.out (kept_trans G5.out G6.out)⟩
      | some l =>
        have HD := Lib.hid (HDS.out l hd); have HR := Lib.hid (HRS.out l hd)
        have hl32 := H32.out l hd
        clear hd HDN HDS HRN HRS H32
        go_enter Try.func4, Try.ntmps4
        go_wp2_with fail
        refine (kawake_any w).mono ?_
        rintro e w1 ⟨rfl, g1⟩
        go_wp2_with fail
        refine (HD.out _).mono ?_
        rintro e w2 ⟨B1, c1, rfl, el1, g2⟩
        go_wp2_with fail
        refine (HR.out _).mono ?_
        rintro e w3 ⟨B2, c2, rfl, el2, g3⟩
        have G3 := Lib.hid (kept_trans g1 (kept_trans g2 g3))
        have HA := Lib.hid (el1.els.kept g3); have HB := Lib.hid el2.els
        clear g1 g2 g3 el1 el2
        go_wp2_with fail
        refine (HSK.out _).mono ?_
        rintro e w4 ⟨rfl, g4⟩
        have HX := Lib.hid (malloc_new w4 (.cells #[.string (bs x.key), .int .u64 (x.seq : Nat), .bool x.del, .string (bs x.val)] 35))
        have G4 := Lib.hid (kept_trans g4 ((Kept.refl w4).alloc (.cells #[.string (bs x.key), .int .u64 (x.seq : Nat), .bool x.del, .string (bs x.val)] 35)))
        clear g4
        go_wp2_with fail
        refine (HRSK.out _).mono ?_
        rintro e w5 ⟨rfl, g5⟩
        have HY := Lib.hid (malloc_new w5 (.cells #[.string (bs x.key), .int .u64 (x.seq : Nat), .bool x.del, .string (bs x.val)] 35))
        have hx5 := (Below.block (kept_trans g5 ((Kept.refl w5).alloc (.cells #[.string (bs x.key), .int .u64 (x.seq : Nat), .bool x.del, .string (bs x.val)] 35))) _ (mheap_lt HX.out)).trans HX.out
        have HX5 := Lib.hid hx5
        have G5 := Lib.hid (kept_trans G4.out (kept_trans g5 ((Kept.refl w5).alloc (.cells #[.string (bs x.key), .int .u64 (x.seq : Nat), .bool x.del, .string (bs x.val)] 35))))
        have HSM := Lib.hid (msame_eq (c1 := c1) (c2 := c2) (HA.out.kept G5.out) (HB.out.kept G5.out) rfl rfl (by omega) rfl)
        clear g5 hx5
        go_wp2_with fail
        refine HSM.out.mono ?_
        rintro e w6 ⟨rfl, g6⟩
        have hx6 := (Below.block g6 _ (mheap_lt HX5.out)).trans HX5.out
        have hy6 := (Below.block g6 _ (mheap_lt HY.out)).trans HY.out
        have x0 := blk_cell hx6 0; have x1 := blk_cell hx6 1; have x2 := blk_cell hx6 2; have x3 := blk_cell hx6 3
        have y0 := blk_cell hy6 0; have y1 := blk_cell hy6 1; have y2 := blk_cell hy6 2; have y3 := blk_cell hy6 3
        simp only [List.getElem?_toArray, List.getElem?_cons_zero, List.getElem?_cons_succ] at x0 x1 x2 x3 y0 y1 y2 y3
        have G6 := Lib.hid g6
        clear hx6 hy6 g6
        go_wp2_with fail
        refine (HCT.out _).mono ?_
        rintro e w7 ⟨rfl, rfl⟩
        go_wp2_with fail
        refine (HRCT.out _).mono ?_
        rintro e w8 ⟨rfl, rfl⟩
        go_wp2_with fail
        go_ret
        exact ⟨ret_bool (by simp), kept_trans G3.out (kept_trans G5.out G6.out)⟩
end Go.Proofs.Ytpnabojfliphpaa
