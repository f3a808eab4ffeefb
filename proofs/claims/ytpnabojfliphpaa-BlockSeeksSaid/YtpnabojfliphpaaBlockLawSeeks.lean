/-
  The walk of screelaw09.BlockSeeks.
-/
import Derived.Test.YtpnabojfliphpaaBlockArgs
namespace Go.Proofs.Ytpnabojfliphpaa
open Go.ChangeShapes Go.WideShapes Go.ChangeAt Go.RowKit
set_option linter.unusedVariables false
set_option maxRecDepth 100000
set_option maxHeartbeats 4000000

theorem rah_n (x : Mm.Ent) (k : List UInt8) (s : Nat) (W : World) (n : Nat) :
    Calls Try.prog 27 #[.string (bs x.key), .int .u64 (x.seq : Nat), .string (bs k), .int .u64 (s : Nat)] (W.drewN n) fun e w' => e = .returned (.bool (x.ah k s)) ∧ ∃ q, w' = W.drewN q :=
  (rahead_any x.key x.seq k s (W.drewN n)).mono fun e w' ⟨h1, h2⟩ => ⟨h1, n, h2.symm⟩
theorem skV_yes {l : List Mm.Ent} {k : List UInt8} {s : Nat} {x : Mm.Ent} (h : sk l k s = some x) : skV (some l) k s = .tuple #[.agg #[.string (bs x.key), .int .u64 (x.seq : Nat), .bool x.del, .string (bs x.val)], .bool true, .int .i64 0] := by
  simp only [skV]; rw [h]; rfl
theorem skV_no {l : List Mm.Ent} {k : List UInt8} {s : Nat} (h : sk l k s = none) : skV (some l) k s = .tuple #[.agg #[.string ⟨#[]⟩, .int .u64 0, .bool false, .string ⟨#[]⟩], .bool false, .int .i64 0] := by
  simp only [skV]; rw [h]; rfl
theorem BlockSeeks_walk (A : Option Addr) (cap : Nat) (l : List Mm.Ent) (S1 : ByteArray) (a1 : Int) {w : World} (ha : Els w A l) (hl : l.length ≤ cap ∧ cap ≤ maxLen ∧ OkEs l) (hS : S1.size ≤ maxLen) (h1 : (Lit.int .u64 a1).wf = true) :
    Calls Try.prog 6 #[.slice A l.length cap, .string S1, .int .u64 a1] w fun e w' => e = .returned (.bool true) ∧ Kept w w' := by
  have b1 := bounds_u64 h1
  obtain ⟨s, rfl⟩ : ∃ s : Nat, a1 = (s : Int) := ⟨a1.toNat, by omega⟩
  obtain ⟨k, rfl, ek⟩ := bs_back S1
  obtain ⟨hc, hm, ho⟩ := hl
  have HE := Lib.hid ha; have HO := Lib.hid ho
  have hlm : l.length ≤ maxLen := by omega
  have HLG := Lib.hid (fun W (h : Els W A l) => klarge_any cap h hlm ho)
  have HEN := Lib.hid (fun W (h : Els W A l) => kencode_any cap h hlm (es_el ho))
  unfold maxLen at hS
  clear h1 ha ho hc hm
  go_enter Try.func6, Try.ntmps6
  go_wp2_with fail
  refine (kawake_any w).mono ?_
  rintro e w1 ⟨rfl, g1⟩
  go_wp2_with fail
  refine (HLG.out _ (HE.out.kept g1)).mono ?_
  rintro e w2 ⟨B, rfl, g2, hB⟩
  have G2 := Lib.hid (kept_trans g1 g2)
  have HB := Lib.hid hB
  clear g1 g2 hB
  cases B with
  | true =>
    go_wp2_with fail
    go_ret
    exact ⟨rfl, G2.out⟩
  | false =>
    obtain ⟨h60, _⟩ := HB.out rfl
    by_cases h3 : 300 < (bs k).size
    · have d3 : decide ((300 : Int) < ((bs k).size : Int)) = true := decide_eq_true (by omega)
      go_wp2_with fail
      go_ret
      exact ⟨rfl, G2.out⟩
    · have d3 : decide ((300 : Int) < ((bs k).size : Int)) = false := decide_eq_false (by omega)
      have HEN2 := Lib.hid (HEN.out _ (HE.out.kept G2.out))
      cases hb : Bk.isB l with
      | false =>
        rw [(Bk.enc_no hb).1, (Bk.enc_no hb).2] at HEN2
        clear hb HEN
        go_wp2_with fail
        refine HEN2.out.mono ?_
        rintro e w3 ⟨rfl, g3⟩
        go_wp2_with fail
        go_ret
        exact ⟨rfl, kept_trans G2.out g3⟩
      | true =>
        rw [(Bk.enc_yes hb).1, (Bk.enc_yes hb).2] at HEN2
        have hsk := kseek_any (Bk.enc l) k s (by have := Bk.enc_len hb; omega)
        rw [Bk.dec_enc hb] at hsk
        generalize Bk.enc l = E at *
        clear hb HEN
        cases hq : sk l k s with
        | some z =>
          rw [skV_yes hq] at hsk
          have HSK := Lib.hid hsk; have HQ := Lib.hid hq
          clear hsk hq
          go_wp2_with fail
          refine HEN2.out.mono ?_
          rintro e w3 ⟨rfl, g3⟩
          go_wp2_with fail
          refine (HSK.out _).mono ?_
          rintro e w4 ⟨rfl, g4⟩
          have HX := Lib.hid (malloc_new w4 (.cells #[.string (bs z.key), .int .u64 (z.seq : Nat), .bool z.del, .string (bs z.val)] 35))
          have G4 := Lib.hid (kept_trans G2.out (kept_trans g3 (kept_trans g4 ((Kept.refl w4).alloc (.cells #[.string (bs z.key), .int .u64 (z.seq : Nat), .bool z.del, .string (bs z.val)] 35)))))
          clear g3 g4
          go_wp2_with fail
          go_loopw [41] (fun t wr => ∃ i : Nat, i ≤ l.length ∧ t = .int .i64 i ∧ Hid (∀ y ∈ l.take i, y.ah k s = true) ∧ Hid (Kept (w4.alloc (.cells #[.string (bs z.key), .int .u64 (z.seq : Nat), .bool z.del, .string (bs z.val)] 35)) wr)) (fun t _ => l.length - (intOf t).toNat)
          case atStart => exact ⟨0, Nat.zero_le _, rfl, Lib.hid (fun y hy => by simp at hy), Lib.hid (Kept.refl _)⟩
          case round =>
            obtain ⟨i, hi, rfl, HA, HK⟩ := hrel
            by_cases hlt : i < l.length
            · obtain ⟨x, hx⟩ : ∃ x, l[i]? = some x := ⟨_, List.getElem?_eq_getElem hlt⟩
              obtain ⟨b, o, rfl, hb, c0, c1, c2, c3⟩ := (HE.out.kept (kept_trans G4.out HK.out)) i x hx
              have HAH := Lib.hid (rah_n x k s wr)
              have HXX := Lib.hid hx
              clear hx
              cases hv : x.ah k s with
              | true =>
                have HN := Lib.hid (take_ah HXX.out hv HA.out)
                rw [hv] at HAH
                clear hv
                go_wp2_with fail
                go_quiet ((go_at_call 27; exact HAH.out _))
                go_wp2_with fail
                go_roundw
                case rel => exact ⟨i + 1, by omega, by go_num, HN, Lib.hid (kept_trans HK.out (kept_drewN _ _))⟩
                case measure => simp [intOf]; omega
              | false =>
                have hz := sk_at HXX.out hv HA.out
                rw [HQ.out] at hz
                injection hz with hz
                subst hz
                rw [hv] at HAH
                have hxx := (Below.block HK.out _ (mheap_lt HX.out)).trans HX.out
                have x0 := blk_cell hxx 0; have x1 := blk_cell hxx 1; have x2 := blk_cell hxx 2; have x3 := blk_cell hxx 3
                simp only [List.getElem?_toArray, List.getElem?_cons_zero, List.getElem?_cons_succ] at x0 x1 x2 x3
                clear hv hxx
                go_wp2_with fail
                go_quiet ((go_at_call 27; exact HAH.out _))
                go_wp2_with fail
                go_quiet (fail)
                go_wp2_with fail
                go_ret
                exact ⟨ret_bool (by simp), kept_trans G4.out (kept_trans HK.out (kept_trans (kept_drewN _ _) (kept_drewN _ _)))⟩
            · have e : i = l.length := by omega
              subst e
              have hz := sk_none (l := l) (k := k) (s := s) (by have := HA.out; rw [List.take_length] at this; exact this)
              rw [HQ.out] at hz
              cases hz
        | none =>
          rw [skV_no hq] at hsk
          have HSK := Lib.hid hsk; have HQ := Lib.hid hq
          clear hsk hq
          go_wp2_with fail
          refine HEN2.out.mono ?_
          rintro e w3 ⟨rfl, g3⟩
          go_wp2_with fail
          refine (HSK.out _).mono ?_
          rintro e w4 ⟨rfl, g4⟩
          have HX := Lib.hid (malloc_new w4 (.cells #[.string ⟨#[]⟩, .int .u64 0, .bool false, .string ⟨#[]⟩] 35))
          have G4 := Lib.hid (kept_trans G2.out (kept_trans g3 (kept_trans g4 ((Kept.refl w4).alloc (.cells #[.string ⟨#[]⟩, .int .u64 0, .bool false, .string ⟨#[]⟩] 35)))))
          clear g3 g4
          go_wp2_with fail
          go_loopw [41] (fun t wr => ∃ i : Nat, i ≤ l.length ∧ t = .int .i64 i ∧ Hid (∀ y ∈ l.take i, y.ah k s = true) ∧ Hid (Kept (w4.alloc (.cells #[.string ⟨#[]⟩, .int .u64 0, .bool false, .string ⟨#[]⟩] 35)) wr)) (fun t _ => l.length - (intOf t).toNat)
          case atStart => exact ⟨0, Nat.zero_le _, rfl, Lib.hid (fun y hy => by simp at hy), Lib.hid (Kept.refl _)⟩
          case round =>
            obtain ⟨i, hi, rfl, HA, HK⟩ := hrel
            by_cases hlt : i < l.length
            · obtain ⟨x, hx⟩ : ∃ x, l[i]? = some x := ⟨_, List.getElem?_eq_getElem hlt⟩
              obtain ⟨b, o, rfl, hb, c0, c1, c2, c3⟩ := (HE.out.kept (kept_trans G4.out HK.out)) i x hx
              have HAH := Lib.hid (rah_n x k s wr)
              have HXX := Lib.hid hx
              clear hx
              cases hv : x.ah k s with
              | true =>
                have HN := Lib.hid (take_ah HXX.out hv HA.out)
                rw [hv] at HAH
                clear hv
                go_wp2_with fail
                go_quiet ((go_at_call 27; exact HAH.out _))
                go_wp2_with fail
                go_roundw
                case rel => exact ⟨i + 1, by omega, by go_num, HN, Lib.hid (kept_trans HK.out (kept_drewN _ _))⟩
                case measure => simp [intOf]; omega
              | false =>
                have hz := sk_at HXX.out hv HA.out
                rw [HQ.out] at hz
                cases hz
            · have e : i = l.length := by omega
              subst e
              have hxx := (Below.block HK.out _ (mheap_lt HX.out)).trans HX.out
              have x0 := blk_cell hxx 0; have x1 := blk_cell hxx 1; have x2 := blk_cell hxx 2; have x3 := blk_cell hxx 3
              simp only [List.getElem?_toArray, List.getElem?_cons_zero, List.getElem?_cons_succ] at x0 x1 x2 x3
              clear hxx
              go_wp2_with fail
              go_ret
              exact ⟨ret_bool (by simp), kept_trans G4.out HK.out⟩
end Go.Proofs.Ytpnabojfliphpaa
