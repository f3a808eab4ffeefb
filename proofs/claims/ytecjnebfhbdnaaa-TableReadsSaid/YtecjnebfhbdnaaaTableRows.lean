/-
  The document's own search for the blocks of a table.
-/
import Derived.Test.YtecjnebfhbdnaaaTableRef
import Derived.Test.YtecjnebfhbdnaaaMergeApp
import Derived.Test.YtecjnebfhbdnaaaBlockRefDec
namespace Go.Proofs.Ytecjnebfhbdnaaa
open Go.ChangeShapes Go.WideShapes Go.ChangeAt Go.RowKit
set_option linter.unusedVariables false
set_option maxRecDepth 100000
set_option maxHeartbeats 8000000

namespace Tb
def sub (s : List UInt8) (a e : Nat) : List UInt8 := (s.drop a).take (e - a)
def hit (s : List UInt8) (q a e : Nat) : Prop := Bk.count (sub s a e) = q ∧ ∃ m, Bk.dec (sub s a e) = some m
def qq (n : Nat) (L : List Mm.Ent) : Nat := min 8 (n - L.length)
theorem sub_len (s : List UInt8) (a e : Nat) : (sub s a e).length ≤ s.length := by unfold sub; rw [List.length_take, List.length_drop]; omega
theorem dec_count {s : List UInt8} {m : List Mm.Ent} (h : Bk.dec s = some m) : Bk.count s = m.length := by
  obtain ⟨h1, h2⟩ := Bk.dec_back h
  rw [← h2]
  exact Bk.count_enc (Bk.isB_iff.1 h1).2.1
end Tb
theorem ext_sub (s : List UInt8) (a e : Nat) : (bs s).extract a e = bs (Tb.sub s a e) := bs_of (by rw [Lib.extract_data, bs_data]; rfl)
def sliceLen : Value → Nat
  | .slice _ n _ => n
  | _ => 0
def RRo (w : World) (s : List UInt8) (n : Nat) (P : List Mm.Ent → Nat → Prop) (e : Ending) (w' : World) : Prop :=
  (∃ L a B c, e = .returned (.slice B L.length c) ∧ Elr w.heap.size w' B c L ∧ P L a ∧ L.length = n ∧ Kept w w') ∨
  (∃ L a, e = .returned (.slice none 0 0) ∧ P L a ∧ L.length < n ∧ (∀ e', a + 8 ≤ e' → e' ≤ s.length → ¬ Tb.hit s (Tb.qq n L) a e') ∧ Kept w w')
/-- what the search for the next block is at -/
def RIn (w wo : World) (s : List UInt8) (n : Nat) (L : List Mm.Ent) (at_ : Nat) (V : Value) (P : List Mm.Ent → Nat → Prop) (v5 v6 v8 v9 : Value) (wr : World) : Prop :=
  (∃ e : Nat, v5 = V ∧ v6 = .int .i64 at_ ∧ v8 = .bool false ∧ v9 = .int .i64 e ∧ at_ + 8 ≤ e ∧ Hid (∀ e', at_ + 8 ≤ e' → e' < e → ¬ Tb.hit s (Tb.qq n L) at_ e') ∧ Hid (Kept wo wr)) ∨
  (∃ (e a : Nat) (m : List Mm.Ent) (A : Option Addr) (c : Nat), v5 = .slice A (L ++ m).length c ∧ v6 = .int .i64 a ∧ v8 = .bool true ∧ v9 = .int .i64 e ∧ a + 1 = e ∧ a ≤ s.length ∧ Hid (P (L ++ m) a ∧ m.length = Tb.qq n L ∧ wr.ownsRow w.heap.size 37 4 (.slice A (L ++ m).length c) (L ++ m).length (elc (L ++ m)) ∧ Kept w wr))
theorem rrows_any (s : List UInt8) (n : Nat) (hs : s.length ≤ 20000) (h1 : 1 ≤ n) (hn : n ≤ 500) (P : List Mm.Ent → Nat → Prop) (h0 : P [] 0)
    (hstep : ∀ L a e m, P L a → L.length < n → a + 8 ≤ e → e ≤ s.length → Bk.dec (Tb.sub s a e) = some m → m.length = Tb.qq n L → P (L ++ m) e) (w : World) :
    Calls Try.prog 44 #[.string (bs s), .int .i64 n] w (RRo w s n P) := by
  have HSTEP := Lib.hid hstep; have HP0 := Lib.hid h0
  have HSZ := Lib.hid (show (bs s).size = s.length from fbs_size s)
  have hzz : (bs s).size ≤ 20000 := by rw [HSZ.out]; exact hs
  have HO0 := Lib.hid (World.ownsRow_lit (base := w.heap.size) (e := 37) (size := 4) w #[] 0 (Nat.le_refl _) (by unfold maxLen; omega) rfl)
  clear hstep h0
  go_enter Try.func44, Try.ntmps44
  go_wp2_with fail
  go_loopw [5, 6] (fun v t wr => ∃ (L : List Mm.Ent) (a : Nat) (A : Option Addr) (c : Nat), v = .slice A L.length c ∧ t = .int .i64 a ∧ P L a ∧ L.length ≤ n ∧ a ≤ s.length ∧ Hid (wr.ownsRow w.heap.size 37 4 (.slice A L.length c) L.length (elc L)) ∧ Hid (Kept w wr)) (fun v _ _ => n - sliceLen v)
  case atStart => exact ⟨[], 0, some ⟨w.heap.size, 0, none⟩, 0, rfl, rfl, HP0.out, Nat.zero_le _, Nat.zero_le _, HO0, Lib.hid ((Kept.refl w).alloc _)⟩
  case round =>
    obtain ⟨L, at_, A, c, rfl, rfl, hP, hLn0, has, HOWN, HKr⟩ := hrel
    by_cases hLn : L.length < n
    · obtain ⟨q0, hq0⟩ : ∃ q0, q0 = n - L.length := ⟨_, rfl⟩
      obtain ⟨a8, ha8⟩ : ∃ a8, a8 = at_ + 8 := ⟨_, rfl⟩
      have w1 : IntKind.i64.wrap ((n : Int) - (L.length : Int)) = (q0 : Int) := by rw [IntKind.wrap_i64]; omega
      have w2 : (n : Int) - (L.length : Int) = (q0 : Int) := by omega
      have w3 : IntKind.i64.wrap ((at_ : Int) + 8) = (a8 : Int) := by rw [IntKind.wrap_i64]; omega
      have w4 : (at_ : Int) + 8 = (a8 : Int) := by omega
      have hq1 : 1 ≤ q0 ∧ q0 ≤ 500 := by omega
      have HA8 := Lib.hid ha8
      by_cases hq : 8 < q0
      · have HQ := Lib.hid (show Tb.qq n L = 8 by unfold Tb.qq; omega)
        have d8 : decide ((8 : Int) < (q0 : Int)) = true := decide_eq_true (by omega)
        clear hq0 ha8
        have HSTART := Lib.hid hP
        go_wp2_with fail
        go_loopw [5, 6, 8, 9] (fun v5 v6 v8 v9 wi => RIn w wr s n L at_ (.slice A L.length c) P v5 v6 v8 v9 wi) (fun _ _ _ v9 _ => s.length + 1 - (intOf v9).toNat)
        case atStart => exact .inl ⟨a8, rfl, rfl, rfl, rfl, by have := HA8.out; omega, Lib.hid (fun e' h1 h2 => absurd h2 (by have := HA8.out; omega)), Lib.hid (Kept.refl _)⟩
        case round =>
          rename_i wi
          unfold RIn at hrel
          rcases hrel with ⟨e, rfl, rfl, rfl, rfl, he8, HNH, HKi⟩ | ⟨e, a, m, A2, c2, rfl, rfl, rfl, rfl, hae, has, HF⟩
          · by_cases hle : e ≤ s.length
            · have d3 : decide ((e : Int) ≤ ((bs s).size : Int)) = true := by rw [HSZ.out]; exact decide_eq_true (by omega)
              have hes : e ≤ (bs s).size := by rw [HSZ.out]; exact hle
              have hat : at_ ≤ e := by omega
              have hx := ext_sub s at_ e
              have hcnt := krcount_any (Tb.sub s at_ e) (by have := Tb.sub_len s at_ e; omega)
              have hsl := Tb.sub_len s at_ e
              obtain ⟨X, hX⟩ : ∃ X, X = bs (Tb.sub s at_ e) := ⟨_, rfl⟩
              rw [← hX] at hx hcnt
              obtain ⟨e1, he1⟩ : ∃ e1, e1 = e + 1 := ⟨_, rfl⟩
              have ue : IntKind.i64.wrap ((e : Int) + 1) = (e1 : Int) := by rw [IntKind.wrap_i64]; omega
              have ue2 : (e : Int) + 1 = (e1 : Int) := by omega
              have HE1 := Lib.hid he1
              have hq8 : Tb.qq n L = 8 := HQ.out
              by_cases hc : Bk.count (Tb.sub s at_ e) = 8
              · rw [hc] at hcnt
                have HCNT := Lib.hid hcnt
                cases hd : Bk.dec (Tb.sub s at_ e) with
                | none =>
                  have hdec := krdecode_none (by omega) hd
                  rw [← hX] at hdec
                  have HDEC := Lib.hid hdec
                  have HN2 := Lib.hid (show ∀ e', at_ + 8 ≤ e' → e' < e1 → ¬ Tb.hit s (Tb.qq n L) at_ e' from fun e' h1 h2 => by
                    by_cases c : e' = e
                    · subst c; rintro ⟨_, m, hm⟩; rw [hd] at hm; cases hm
                    · exact HNH.out e' h1 (by omega))
                  clear he1 hd hdec hcnt hc hX hsl
                  go_wp2_with fail
                  refine (HCNT.out _).mono ?_
                  rintro e w3 ⟨rfl, rfl⟩
                  go_wp2_with fail
                  refine (HDEC.out _).mono ?_
                  rintro e w4 ⟨rfl, g4⟩
                  go_wp2_with fail
                  go_roundw
                  case rel => exact .inl ⟨e1, rfl, rfl, rfl, rfl, by have := HE1.out; omega, HN2, Lib.hid (kept_trans HKi.out g4)⟩
                  case measure => have := HE1.out; simp [intOf]; omega
                | some m =>
                  have hdec := krdecode_some (by omega) hd
                  rw [← hX] at hdec
                  have HDEC := Lib.hid hdec
                  have hml : m.length = 8 := by rw [← hc]; exact (Tb.dec_count hd).symm
                  have HP2 := Lib.hid (HSTEP.out L at_ e m HSTART.out hLn he8 hle hd (by rw [hml, hq8]))
                  have HML := Lib.hid hml
                  have HQL := Lib.hid (show m.length = Tb.qq n L by rw [hml, hq8])
                  have hm8 : m.length ≤ 8 := by rw [hml, ← hq8]; unfold Tb.qq; omega
                  clear he1 hd hdec hcnt hc hX hsl hml
                  go_wp2_with fail
                  refine (HCNT.out _).mono ?_
                  rintro e_ w3 ⟨rfl, rfl⟩
                  go_wp2_with fail
                  refine (HDEC.out _).mono ?_
                  rintro e_ w4 ⟨B, c4, rfl, hel, g4⟩
                  have HB := Lib.hid hel.els
                  have HOW := Lib.hid (own_kept (own_kept HOWN.out HKi.out) g4)
                  have hb4 : w.heap.size ≤ w4.heap.size := Below.size (kept_trans HKr.out (kept_trans HKi.out g4))
                  have HK4 := Lib.hid (kept_trans HKr.out (kept_trans HKi.out g4))
                  clear hel g4
                  go_wp2_with (at_builtin; refine app_es B c4 L m _ _ rfl rfl rfl w.heap.size hb4 HOW.out m.length rfl rfl HB.out (by omega) ?_)
                  intro v5 w5 hown5 hg5
                  have hk5 : Kept w w5 := Below.grown HK4.out hg5 hb4 (fun b hb => (HOW.out.lt b hb).1)
                  obtain ⟨A5, c5, rfl, _, hel5⟩ := els_own hown5
                  have HFIN := Lib.hid (show P (L ++ m) e ∧ m.length = Tb.qq n L ∧ w5.ownsRow w.heap.size 37 4 (.slice A5 (L ++ m).length c5) (L ++ m).length (elc (L ++ m)) ∧ Kept w w5 from ⟨HP2.out, HQL.out, by have := hown5; rw [← List.length_append] at this; exact this, hk5⟩)
                  obtain ⟨N5, hN5⟩ : ∃ N5, N5 = (L ++ m).length := ⟨_, rfl⟩
                  rw [← hN5]
                  have HN5 := Lib.hid hN5
                  clear hown5 hg5 hk5 hel5 HOW HB hN5
                  go_wp2_with fail
                  go_roundw
                  case rel => exact .inr ⟨e1, e, m, A5, c5, by rw [HN5.out], rfl, rfl, rfl, HE1.out.symm, hle, HFIN⟩
                  case measure => have := HE1.out; simp [intOf]; omega
              · have HCNT := Lib.hid hcnt
                have hne : ((Bk.count (Tb.sub s at_ e) : Int) != (8 : Int)) = true := by simp; omega
                have HN2 := Lib.hid (show ∀ e', at_ + 8 ≤ e' → e' < e1 → ¬ Tb.hit s (Tb.qq n L) at_ e' from fun e' h1 h2 => by
                  by_cases c : e' = e
                  · subst c; rintro ⟨h3, _⟩; exact hc (h3.trans hq8)
                  · exact HNH.out e' h1 (by omega))
                generalize Bk.count (Tb.sub s at_ e) = C at *
                clear he1 hcnt hc hX hsl
                go_wp2_with fail
                refine (HCNT.out _).mono ?_
                rintro e_ w3 ⟨rfl, rfl⟩
                go_wp2_with fail
                go_roundw
                case rel => exact .inl ⟨e1, rfl, rfl, rfl, rfl, by have := HE1.out; omega, HN2, HKi⟩
                case measure => have := HE1.out; simp [intOf]; omega
            · have d3 : decide ((e : Int) ≤ ((bs s).size : Int)) = false := by rw [HSZ.out]; exact decide_eq_false (by omega)
              have hnn : ¬ e ≤ (bs s).size := by rw [HSZ.out]; exact hle
              go_wp2_with fail
              go_ret
              exact .inr ⟨L, at_, rfl, HSTART.out, hLn, fun e' h1 h2 => HNH.out e' h1 (by omega), kept_trans HKr.out HKi.out⟩
          · have HAE := Lib.hid hae
            obtain ⟨M, hM⟩ : ∃ M, M = (L ++ m).length := ⟨_, rfl⟩
            have HM := Lib.hid hM
            have hMn : L.length < M ∧ M ≤ n := by rw [hM, List.length_append, HF.out.2.1]; unfold Tb.qq; omega
            rw [← hM]
            clear hM hae
            by_cases hle : e ≤ s.length
            · have d3 : decide ((e : Int) ≤ ((bs s).size : Int)) = true := by rw [HSZ.out]; exact decide_eq_true (by omega)
              have hes : e ≤ (bs s).size := by rw [HSZ.out]; exact hle
              go_wp2_with fail
              go_roundw
              case rel => exact ⟨L ++ m, a, A2, c2, by rw [HM.out], rfl, HF.out.1, by have := HM.out; omega, has, Lib.hid HF.out.2.2.1, Lib.hid HF.out.2.2.2⟩
              case measure => simp [sliceLen]; omega
            · have d3 : decide ((e : Int) ≤ ((bs s).size : Int)) = false := by rw [HSZ.out]; exact decide_eq_false (by omega)
              have hnn : ¬ e ≤ (bs s).size := by rw [HSZ.out]; exact hle
              go_wp2_with fail
              go_roundw
              case rel => exact ⟨L ++ m, a, A2, c2, by rw [HM.out], rfl, HF.out.1, by have := HM.out; omega, has, Lib.hid HF.out.2.2.1, Lib.hid HF.out.2.2.2⟩
              case measure => simp [sliceLen]; omega
      · have HQ := Lib.hid (show Tb.qq n L = q0 by unfold Tb.qq; omega)
        have d8 : decide ((8 : Int) < (q0 : Int)) = false := decide_eq_false (by omega)
        clear hq0 ha8
        have HSTART := Lib.hid hP
        go_wp2_with fail
        go_loopw [5, 6, 8, 9] (fun v5 v6 v8 v9 wi => RIn w wr s n L at_ (.slice A L.length c) P v5 v6 v8 v9 wi) (fun _ _ _ v9 _ => s.length + 1 - (intOf v9).toNat)
        case atStart => exact .inl ⟨a8, rfl, rfl, rfl, rfl, by have := HA8.out; omega, Lib.hid (fun e' h1 h2 => absurd h2 (by have := HA8.out; omega)), Lib.hid (Kept.refl _)⟩
        case round =>
          rename_i wi
          unfold RIn at hrel
          rcases hrel with ⟨e, rfl, rfl, rfl, rfl, he8, HNH, HKi⟩ | ⟨e, a, m, A2, c2, rfl, rfl, rfl, rfl, hae, has, HF⟩
          · by_cases hle : e ≤ s.length
            · have d3 : decide ((e : Int) ≤ ((bs s).size : Int)) = true := by rw [HSZ.out]; exact decide_eq_true (by omega)
              have hes : e ≤ (bs s).size := by rw [HSZ.out]; exact hle
              have hat : at_ ≤ e := by omega
              have hx := ext_sub s at_ e
              have hcnt := krcount_any (Tb.sub s at_ e) (by have := Tb.sub_len s at_ e; omega)
              have hsl := Tb.sub_len s at_ e
              obtain ⟨X, hX⟩ : ∃ X, X = bs (Tb.sub s at_ e) := ⟨_, rfl⟩
              rw [← hX] at hx hcnt
              obtain ⟨e1, he1⟩ : ∃ e1, e1 = e + 1 := ⟨_, rfl⟩
              have ue : IntKind.i64.wrap ((e : Int) + 1) = (e1 : Int) := by rw [IntKind.wrap_i64]; omega
              have ue2 : (e : Int) + 1 = (e1 : Int) := by omega
              have HE1 := Lib.hid he1
              have hq8 : Tb.qq n L = q0 := HQ.out
              by_cases hc : Bk.count (Tb.sub s at_ e) = q0
              · rw [hc] at hcnt
                have HCNT := Lib.hid hcnt
                cases hd : Bk.dec (Tb.sub s at_ e) with
                | none =>
                  have hdec := krdecode_none (by omega) hd
                  rw [← hX] at hdec
                  have HDEC := Lib.hid hdec
                  have HN2 := Lib.hid (show ∀ e', at_ + 8 ≤ e' → e' < e1 → ¬ Tb.hit s (Tb.qq n L) at_ e' from fun e' h1 h2 => by
                    by_cases c : e' = e
                    · subst c; rintro ⟨_, m, hm⟩; rw [hd] at hm; cases hm
                    · exact HNH.out e' h1 (by omega))
                  clear he1 hd hdec hcnt hc hX hsl
                  go_wp2_with fail
                  refine (HCNT.out _).mono ?_
                  rintro e w3 ⟨rfl, rfl⟩
                  go_wp2_with fail
                  refine (HDEC.out _).mono ?_
                  rintro e w4 ⟨rfl, g4⟩
                  go_wp2_with fail
                  go_roundw
                  case rel => exact .inl ⟨e1, rfl, rfl, rfl, rfl, by have := HE1.out; omega, HN2, Lib.hid (kept_trans HKi.out g4)⟩
                  case measure => have := HE1.out; simp [intOf]; omega
                | some m =>
                  have hdec := krdecode_some (by omega) hd
                  rw [← hX] at hdec
                  have HDEC := Lib.hid hdec
                  have hml : m.length = q0 := by rw [← hc]; exact (Tb.dec_count hd).symm
                  have HP2 := Lib.hid (HSTEP.out L at_ e m HSTART.out hLn he8 hle hd (by rw [hml, hq8]))
                  have HML := Lib.hid hml
                  have HQL := Lib.hid (show m.length = Tb.qq n L by rw [hml, hq8])
                  have hm8 : m.length ≤ 8 := by rw [hml, ← hq8]; unfold Tb.qq; omega
                  clear he1 hd hdec hcnt hc hX hsl hml
                  go_wp2_with fail
                  refine (HCNT.out _).mono ?_
                  rintro e_ w3 ⟨rfl, rfl⟩
                  go_wp2_with fail
                  refine (HDEC.out _).mono ?_
                  rintro e_ w4 ⟨B, c4, rfl, hel, g4⟩
                  have HB := Lib.hid hel.els
                  have HOW := Lib.hid (own_kept (own_kept HOWN.out HKi.out) g4)
                  have hb4 : w.heap.size ≤ w4.heap.size := Below.size (kept_trans HKr.out (kept_trans HKi.out g4))
                  have HK4 := Lib.hid (kept_trans HKr.out (kept_trans HKi.out g4))
                  clear hel g4
                  go_wp2_with (at_builtin; refine app_es B c4 L m _ _ rfl rfl rfl w.heap.size hb4 HOW.out m.length rfl rfl HB.out (by omega) ?_)
                  intro v5 w5 hown5 hg5
                  have hk5 : Kept w w5 := Below.grown HK4.out hg5 hb4 (fun b hb => (HOW.out.lt b hb).1)
                  obtain ⟨A5, c5, rfl, _, hel5⟩ := els_own hown5
                  have HFIN := Lib.hid (show P (L ++ m) e ∧ m.length = Tb.qq n L ∧ w5.ownsRow w.heap.size 37 4 (.slice A5 (L ++ m).length c5) (L ++ m).length (elc (L ++ m)) ∧ Kept w w5 from ⟨HP2.out, HQL.out, by have := hown5; rw [← List.length_append] at this; exact this, hk5⟩)
                  obtain ⟨N5, hN5⟩ : ∃ N5, N5 = (L ++ m).length := ⟨_, rfl⟩
                  rw [← hN5]
                  have HN5 := Lib.hid hN5
                  clear hown5 hg5 hk5 hel5 HOW HB hN5
                  go_wp2_with fail
                  go_roundw
                  case rel => exact .inr ⟨e1, e, m, A5, c5, by rw [HN5.out], rfl, rfl, rfl, HE1.out.symm, hle, HFIN⟩
                  case measure => have := HE1.out; simp [intOf]; omega
              · have HCNT := Lib.hid hcnt
                have hne : ((Bk.count (Tb.sub s at_ e) : Int) != (q0 : Int)) = true := by simp; omega
                have HN2 := Lib.hid (show ∀ e', at_ + 8 ≤ e' → e' < e1 → ¬ Tb.hit s (Tb.qq n L) at_ e' from fun e' h1 h2 => by
                  by_cases c : e' = e
                  · subst c; rintro ⟨h3, _⟩; exact hc (h3.trans hq8)
                  · exact HNH.out e' h1 (by omega))
                generalize Bk.count (Tb.sub s at_ e) = C at *
                clear he1 hcnt hc hX hsl
                go_wp2_with fail
                refine (HCNT.out _).mono ?_
                rintro e_ w3 ⟨rfl, rfl⟩
                go_wp2_with fail
                go_roundw
                case rel => exact .inl ⟨e1, rfl, rfl, rfl, rfl, by have := HE1.out; omega, HN2, HKi⟩
                case measure => have := HE1.out; simp [intOf]; omega
            · have d3 : decide ((e : Int) ≤ ((bs s).size : Int)) = false := by rw [HSZ.out]; exact decide_eq_false (by omega)
              have hnn : ¬ e ≤ (bs s).size := by rw [HSZ.out]; exact hle
              go_wp2_with fail
              go_ret
              exact .inr ⟨L, at_, rfl, HSTART.out, hLn, fun e' h1 h2 => HNH.out e' h1 (by omega), kept_trans HKr.out HKi.out⟩
          · have HAE := Lib.hid hae
            obtain ⟨M, hM⟩ : ∃ M, M = (L ++ m).length := ⟨_, rfl⟩
            have HM := Lib.hid hM
            have hMn : L.length < M ∧ M ≤ n := by rw [hM, List.length_append, HF.out.2.1]; unfold Tb.qq; omega
            rw [← hM]
            clear hM hae
            by_cases hle : e ≤ s.length
            · have d3 : decide ((e : Int) ≤ ((bs s).size : Int)) = true := by rw [HSZ.out]; exact decide_eq_true (by omega)
              have hes : e ≤ (bs s).size := by rw [HSZ.out]; exact hle
              go_wp2_with fail
              go_roundw
              case rel => exact ⟨L ++ m, a, A2, c2, by rw [HM.out], rfl, HF.out.1, by have := HM.out; omega, has, Lib.hid HF.out.2.2.1, Lib.hid HF.out.2.2.2⟩
              case measure => simp [sliceLen]; omega
            · have d3 : decide ((e : Int) ≤ ((bs s).size : Int)) = false := by rw [HSZ.out]; exact decide_eq_false (by omega)
              have hnn : ¬ e ≤ (bs s).size := by rw [HSZ.out]; exact hle
              go_wp2_with fail
              go_roundw
              case rel => exact ⟨L ++ m, a, A2, c2, by rw [HM.out], rfl, HF.out.1, by have := HM.out; omega, has, Lib.hid HF.out.2.2.1, Lib.hid HF.out.2.2.2⟩
              case measure => simp [sliceLen]; omega
    · obtain ⟨A2, c2, e2, _, hel⟩ := els_own HOWN.out
      cases e2
      have HEL := Lib.hid hel
      have HLE := Lib.hid (show L.length = n by omega)
      have HP := Lib.hid hP
      clear hel hP
      go_wp2_with fail
      go_ret
      exact .inl ⟨L, at_, A, c, rfl, HEL.out, HP.out, HLE.out, HKr.out⟩
end Go.Proofs.Ytecjnebfhbdnaaa
