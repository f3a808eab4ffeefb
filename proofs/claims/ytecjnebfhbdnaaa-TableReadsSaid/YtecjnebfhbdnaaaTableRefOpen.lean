/-
  The document's own table: which one any bytes are.
-/
import Derived.Test.YtecjnebfhbdnaaaTableRows
import Derived.Test.YtecjnebfhbdnaaaTableRefTab
namespace Go.Proofs.Ytecjnebfhbdnaaa
open Go.ChangeShapes Go.WideShapes Go.ChangeAt Go.RowKit
set_option linter.unusedVariables false
set_option maxRecDepth 100000
set_option maxHeartbeats 8000000

namespace Tb
open Mm
theorem foot_of {s : List UInt8} {l : List Ent} (h : dec s = some l) : ∃ X, s = X ++ foot l ∧ isT l = true ∧ enc l = s := by
  obtain ⟨h1, h2, _⟩ := dec_back h
  exact ⟨out l (nb l) ++ (idx l ++ fl l), by rw [← h2]; unfold enc; simp, h1, h2⟩
theorem foot_parts {s : List UInt8} {l : List Ent} (h : dec s = some l) : 32 ≤ s.length ∧ s.drop (s.length - 8) = magic ∧ sub s (s.length - 16) (s.length - 8) = Nm.long l.length := by
  obtain ⟨X, e, h1, _⟩ := foot_of h
  have hf := foot_len l
  have hs : s.length = X.length + 32 := by rw [e, List.length_append, hf]
  obtain ⟨Y, hY⟩ : ∃ Y, Y = X ++ (Nm.long (idx l).length ++ Nm.long (fl l).length) := ⟨_, rfl⟩
  have hYl : Y.length = X.length + 16 := by rw [hY]; simp only [List.length_append, long_len]
  have e2 : s = Y ++ (Nm.long l.length ++ magic) := by rw [e, hY]; unfold foot; simp
  have h8 : s.length - 8 = (Y ++ Nm.long l.length).length := by rw [List.length_append, hYl, long_len]; omega
  have h16 : s.length - 16 = Y.length := by omega
  refine ⟨by omega, ?_, ?_⟩
  · rw [h8, e2, ← List.append_assoc, List.drop_left]
  · unfold sub
    rw [show s.length - 8 - (s.length - 16) = 8 by omega, h16, e2, List.drop_left]
    have := List.take_left (l₁ := Nm.long l.length) (l₂ := magic)
    rwa [long_len] at this
/-- the bytes ahead of a table's foot -/
theorem body_of {s : List UInt8} {l : List Ent} (h : dec s = some l) : ∃ R, s.take (s.length - 32) = out l (nb l) ++ R := by
  obtain ⟨h1, h2, _⟩ := dec_back h
  have hf := foot_len l
  refine ⟨idx l ++ fl l, ?_⟩
  have e : s = (out l (nb l) ++ (idx l ++ fl l)) ++ foot l := by rw [← h2]; unfold enc; simp
  have hl : s.length - 32 = (out l (nb l) ++ (idx l ++ fl l)).length := by rw [e, List.length_append, hf]; omega
  rw [hl]
  conv => lhs; rw [e]
  exact List.take_left
/-- how far the search has come -/
def At8 (l : List Ent) (L : List Ent) (a : Nat) : Prop := ∃ i, i ≤ nb l ∧ L = l.take (8 * i) ∧ a = (out l i).length
theorem at8_drop {l : List Ent} {b R : List UInt8} {i : Nat} (hb : b = out l (nb l) ++ R) (hi : i < nb l) : ∃ r, b.drop (out l i).length = Bk.enc (bl l i) ++ r := by
  obtain ⟨T, hT⟩ := out_split l (show i + 1 ≤ nb l by omega)
  refine ⟨T ++ R, ?_⟩
  rw [hb, hT, out_succ, List.append_assoc, List.append_assoc, List.drop_left]
theorem at8_len {l : List Ent} {i : Nat} (hi : i ≤ nb l) (h : (l.take (8 * i)).length < l.length) : i < nb l := by
  rw [List.length_take] at h
  unfold nb; omega
theorem at8_q {l : List Ent} {i : Nat} (hi : i < nb l) : qq l.length (l.take (8 * i)) = (bl l i).length := by
  unfold qq
  rw [bl_len, List.length_take]
  unfold nb at hi
  omega
theorem at8_step {l : List Ent} (hT : isT l = true) {b R : List UInt8} (hb : b = out l (nb l) ++ R) : ∀ L a e m, At8 l L a → L.length < l.length → a + 8 ≤ e → e ≤ b.length → Bk.dec (sub b a e) = some m → m.length = qq l.length L → At8 l (L ++ m) e := by
  rintro L a e m ⟨i, hi, rfl, rfl⟩ hL h8 he hd hm
  have hin := at8_len hi hL
  obtain ⟨r, hr⟩ := at8_drop hb hin
  obtain ⟨m1, m2⟩ := Bk.dec_back hd
  have hsp : b.drop (out l i).length = Bk.enc m ++ (b.drop (out l i).length).drop (e - (out l i).length) := by
    rw [m2]; unfold sub; rw [List.take_append_drop]
  rw [hr] at hsp
  have hml := Bk.apart (bl_isB hT hin) m1 hsp
  subst hml
  refine ⟨i + 1, hin, by rw [take_bl_succ], ?_⟩
  rw [out_succ, List.length_append]
  have hsl : (sub b (out l i).length e).length = e - (out l i).length := by
    unfold sub; rw [List.length_take, List.length_drop]; omega
  rw [m2, hsl]
  omega
theorem at8_hit {l : List Ent} (hT : isT l = true) {b R : List UInt8} (hb : b = out l (nb l) ++ R) {L : List Ent} {a : Nat} (h : At8 l L a) (hL : L.length < l.length) : ∃ e, a + 8 ≤ e ∧ e ≤ b.length ∧ hit b (qq l.length L) a e := by
  obtain ⟨i, hi, rfl, rfl⟩ := h
  have hin := at8_len hi hL
  obtain ⟨r, hr⟩ := at8_drop hb hin
  have hB := bl_isB hT hin
  have hen : 8 ≤ (Bk.enc (bl l i)).length := by
    unfold Bk.enc
    simp only [List.length_append, long_len]
    omega
  have hbl : (b.drop (out l i).length).length = b.length - (out l i).length := List.length_drop ..
  rw [hr, List.length_append] at hbl
  have hsub : sub b (out l i).length ((out l i).length + (Bk.enc (bl l i)).length) = Bk.enc (bl l i) := by
    unfold sub
    rw [hr, Nat.add_sub_cancel_left, List.take_left]
  refine ⟨(out l i).length + (Bk.enc (bl l i)).length, by omega, by omega, ?_, bl l i, ?_⟩
  · rw [hsub, Bk.count_enc (Bk.isB_iff.1 hB).2.1, at8_q hin]
  · rw [hsub]; exact Bk.dec_enc hB
theorem at8_done {l L : List Ent} {a : Nat} (h : At8 l L a) (hL : L.length = l.length) : L = l := by
  obtain ⟨i, hi, rfl, rfl⟩ := h
  rw [List.length_take] at hL
  exact List.take_of_length_le (by omega)
end Tb
def ROp (w : World) (s : List UInt8) (e : Ending) (w' : World) : Prop :=
  (∃ l p, Tb.dec s = some l ∧ e = .returned (.tuple #[.pointer (some ⟨p, 0, none⟩), .int .i64 0]) ∧ RTb w' p l ∧ Kept w w') ∨ (Tb.dec s = none ∧ e = .returned (.tuple #[.pointer none, .int .i64 2]) ∧ Kept w w')
theorem okEl_may {l : List Mm.Ent} (h : ∀ x ∈ l, Mm.may x = true) : OkEl l := fun x hx => by
  obtain ⟨_, q1, q2, _⟩ := Mm.may_iff.1 (h x hx)
  exact ⟨by unfold maxLen; omega, by unfold maxLen; omega⟩
theorem rtopen_any (s : List UInt8) (hs : s.length ≤ 16384) (w : World) :
    Calls Try.prog 13 #[.string (bs s)] w (ROp w s) := by
  have HSZ := Lib.hid (show (bs s).size = s.length from fbs_size s)
  have hzz : (bs s).size ≤ 16384 := by rw [HSZ.out]; exact hs
  have HFP := Lib.hid (fun l (h : Tb.dec s = some l) => Tb.foot_parts h)
  by_cases h32 : s.length < 32
  · have HD := Lib.hid (show Tb.dec s = none by
      cases hd : Tb.dec s with
      | none => rfl
      | some l => have := (HFP.out l hd).1; omega)
    obtain ⟨z, hz⟩ : ∃ z : Int, z = ((bs s).size : Int) - 32 := ⟨_, rfl⟩
    have z0 : z < 0 ∧ -32 ≤ z := by have := HSZ.out; omega
    have e1 : IntKind.i64.wrap (((bs s).size : Int) - 32) = z := by rw [IntKind.wrap_i64]; omega
    have e2 : ((bs s).size : Int) - 32 = z := hz.symm
    have e3 : decide (z < 0) = true := decide_eq_true z0.1
    clear hz
    go_enter Try.func13, Try.ntmps13
    go_wp2_with fail
    go_ret2
    exact .inr ⟨HD.out, rfl, Kept.refl _⟩
  · obtain ⟨j, hj⟩ : ∃ j, j = s.length - 32 := ⟨_, rfl⟩
    obtain ⟨j16, hj16⟩ : ∃ j16, j16 = j + 16 := ⟨_, rfl⟩
    obtain ⟨j24, hj24⟩ : ∃ j24, j24 = j + 24 := ⟨_, rfl⟩
    have e1 : IntKind.i64.wrap (((bs s).size : Int) - 32) = (j : Int) := by rw [IntKind.wrap_i64, HSZ.out]; omega
    have e2 : ((bs s).size : Int) - 32 = (j : Int) := by rw [HSZ.out]; omega
    have e4 : IntKind.i64.wrap ((j : Int) + 16) = (j16 : Int) := by rw [IntKind.wrap_i64]; omega
    have e5 : (j : Int) + 16 = (j16 : Int) := by omega
    have e6 : IntKind.i64.wrap ((j : Int) + 24) = (j24 : Int) := by rw [IntKind.wrap_i64]; omega
    have e7 : (j : Int) + 24 = (j24 : Int) := by omega
    have l1 : j24 ≤ (bs s).size := by rw [HSZ.out]; omega
    have l2 : j16 ≤ j24 := by omega
    have l3 : j ≤ (bs s).size := by rw [HSZ.out]; omega
    have d0 : decide ((j : Int) < 0) = false := decide_eq_false (by omega)
    have HJ := Lib.hid (show j24 = s.length - 8 ∧ j16 = s.length - 16 ∧ j = s.length - 32 from ⟨by omega, by omega, hj⟩)
    have hx1 : (bs s).extract j24 (bs s).size = bs (s.drop j24) := extract_drop s j24
    have hx2 := ext_sub s j16 j24
    have hx3 : (bs s).extract 0 j = bs (s.take j) := extract_take s j
    clear hj hj16 hj24 h32
    by_cases hmg : s.drop j24 = Tb.magic
    · rw [hmg] at hx1
      have t1 : ((bs Tb.magic).toList == [115, 99, 114, 101, 101, 48, 48, 49]) = true := by rw [Lib.toList_data, bs_data]; rfl
      have t2 : (!(bs Tb.magic).toList == [115, 99, 114, 101, 101, 48, 48, 49]) = false := by rw [t1]; rfl
      obtain ⟨MG, hMG⟩ : ∃ MG, MG = bs Tb.magic := ⟨_, rfl⟩
      rw [← hMG] at hx1 t1 t2
      have hun := runlong_any (bs (Tb.sub s j16 j24)) (by rw [fbs_size]; have := Tb.sub_len s j16 j24; unfold maxLen; omega)
      rw [bs_data] at hun
      obtain ⟨X2, hX2⟩ : ∃ X2, X2 = bs (Tb.sub s j16 j24) := ⟨_, rfl⟩
      obtain ⟨N, hN⟩ : ∃ N, N = Nm.unl (Tb.sub s j16 j24) := ⟨_, rfl⟩
      have hNlt : N < 18446744073709551616 := by rw [hN]; exact Nm.unl_lt _
      have HNL := Lib.hid (fun l (h : Tb.dec s = some l) => (show N = l.length by
        rw [hN, HJ.out.1, HJ.out.2.1, (HFP.out l h).2.2, Nm.unl_long]
        have := (Tb.isT_iff.1 (Tb.dec_back h).1).2.1; omega))
      rw [← hX2] at hx2 hun; rw [← hN] at hun
      generalize Nm.unlB (Tb.sub s j16 j24) = UB at *
      have HUN := Lib.hid hun
      clear hmg hMG hX2 hN hun
      by_cases hN1 : N < 1
      · have HD := Lib.hid (show Tb.dec s = none by
          cases hd : Tb.dec s with
          | none => rfl
          | some l => have := HNL.out l hd; have := (Tb.isT_iff.1 (Tb.dec_back hd).1).1; omega)
        have d1 : decide ((N : Int) < 1) = true := decide_eq_true (by omega)
        go_enter Try.func13, Try.ntmps13
        go_wp2_with fail
        refine (HUN.out _).mono ?_
        rintro e w1 ⟨rfl, rfl⟩
        go_wp2_with fail
        go_ret2
        exact .inr ⟨HD.out, rfl, Kept.refl _⟩
      · have d1 : decide ((N : Int) < 1) = false := decide_eq_false (by omega)
        by_cases hN5 : 500 < N
        · have HD := Lib.hid (show Tb.dec s = none by
            cases hd : Tb.dec s with
            | none => rfl
            | some l => have := HNL.out l hd; have := (Tb.isT_iff.1 (Tb.dec_back hd).1).2.1; omega)
          have d2 : decide ((500 : Int) < (N : Int)) = true := decide_eq_true (by omega)
          go_enter Try.func13, Try.ntmps13
          go_wp2_with fail
          refine (HUN.out _).mono ?_
          rintro e w1 ⟨rfl, rfl⟩
          go_wp2_with fail
          go_ret2
          exact .inr ⟨HD.out, rfl, Kept.refl _⟩
        · have d2 : decide ((500 : Int) < (N : Int)) = false := decide_eq_false (by omega)
          have wN : IntKind.i64.wrap (N : Int) = (N : Int) := by rw [IntKind.wrap_i64]; omega
          have hbl : (s.take j).length ≤ 20000 := by rw [List.length_take]; omega
          cases hd : Tb.dec s with
          | none =>
            have HRW := Lib.hid (rrows_any (s.take j) N hbl (by omega) (by omega) (fun L _ => ∀ x ∈ L, Mm.may x = true) (fun x hx => by cases hx) (fun L a e m h1 _ _ _ hm _ x hx => by
              rcases List.mem_append.1 hx with q | q
              · exact h1 x q
              · exact (Bk.isB_iff.1 (Bk.dec_back hm).1).2.2.1 x q) w)
            have HD := Lib.hid hd
            obtain ⟨BD, hBD⟩ : ∃ BD, BD = bs (s.take j) := ⟨_, rfl⟩
            rw [← hBD] at hx3 HRW
            clear hd hbl hBD
            go_enter Try.func13, Try.ntmps13
            go_wp2_with fail
            refine (HUN.out _).mono ?_
            rintro e w1 ⟨rfl, rfl⟩
            go_wp2_with fail
            refine HRW.out.mono ?_
            rintro e w2 (⟨L, a, B, c, rfl, hel, hP, hLn, g2⟩ | ⟨L, a, rfl, hP, hLn, _, g2⟩)
            · have hbd := rtbuild_any c hel.els hel.cap hel.most (okEl_may hP)
              have G2 := Lib.hid g2
              by_cases hT : Tb.isT L = true
              · rw [(Tb.encS_yes hT).1, (Tb.encS_yes hT).2] at hbd
                have hne : Tb.enc L ≠ s := Tb.dec_none HD.out hT
                have t3 : ((bs (Tb.enc L)).toList == (bs s).toList) = false := by rw [mbs_eq, decide_eq_false hne]
                have t4 : (!(bs (Tb.enc L)).toList == (bs s).toList) = true := by rw [t3]; rfl
                obtain ⟨EL, hEL⟩ : ∃ EL, EL = bs (Tb.enc L) := ⟨_, rfl⟩
                rw [← hEL] at hbd t3 t4
                have HBD := Lib.hid hbd
                clear hbd hT hne hEL hel hP g2 hLn
                go_wp2_with fail
                refine HBD.out.mono ?_
                rintro e w3 ⟨rfl, g3⟩
                go_wp2_with fail
                go_ret2
                exact .inr ⟨HD.out, rfl, kept_trans G2.out g3⟩
              · have hT' : Tb.isT L = false := by simpa using hT
                rw [(Tb.encS_no hT').1, (Tb.encS_no hT').2] at hbd
                have HBD := Lib.hid hbd
                clear hbd hT hT' hel hP g2 hLn
                go_wp2_with fail
                refine HBD.out.mono ?_
                rintro e w3 ⟨rfl, g3⟩
                go_wp2_with fail
                go_ret2
                exact .inr ⟨HD.out, rfl, kept_trans G2.out g3⟩
            · have hbd := rtbuild_any (w := w2) (A := none) (l := []) 0 (fun j x hx => by simp at hx) (Nat.le_refl _) (by unfold maxLen; omega) (fun x hx => by cases hx)
              have HBD := Lib.hid (show Calls Try.prog 10 #[.slice none 0 0] w2 fun e w' => e = .returned (.tuple #[.string (bs []), .int .i64 2]) ∧ Kept w2 w' from hbd)
              have G2 := Lib.hid g2
              clear hbd hP g2 hLn
              go_wp2_with fail
              refine HBD.out.mono ?_
              rintro e w3 ⟨rfl, g3⟩
              go_wp2_with fail
              go_ret2
              exact .inr ⟨HD.out, rfl, kept_trans G2.out g3⟩
          | some l =>
            have hT := (Tb.dec_back hd).1
            have hes := (Tb.dec_back hd).2.1
            obtain ⟨R, hR⟩ := Tb.body_of hd
            rw [← HJ.out.2.2] at hR
            have hNl := HNL.out l hd
            subst hNl
            have HRW := Lib.hid (rrows_any (s.take j) l.length hbl (by omega) (by omega) (Tb.At8 l) ⟨0, Nat.zero_le _, by simp, rfl⟩ (Tb.at8_step hT hR) w)
            have HHIT := Lib.hid (fun L a (h : Tb.At8 l L a) (hL : L.length < l.length) => Tb.at8_hit hT hR h hL)
            have hfl := Tb.fl_len hT
            have hkl := Tb.keys_len hT
            have HD := Lib.hid hd; have HT := Lib.hid hT
            have HMK := Lib.hid (fun (W : World) (B : Option Addr) (c' : Nat) (q : Txs W B (Tb.keys l)) => (by have := rbmmake_any B c' (Tb.keys l) (by unfold maxLen; omega) (rkeys_max hT) W q; rw [show Bm.makeS (Tb.keys l) = Tb.fl l from if_pos (by omega), show Bm.makeE (Tb.keys l) = 0 from if_pos (by omega)] at this; exact this : Calls Try.prog 39 #[.slice B (Tb.keys l).length c'] W fun e w' => e = .returned (.tuple #[.string (bs (Tb.fl l)), .int .i64 0]) ∧ Kept W w'))
            have t3 : ((bs s).toList == (bs s).toList) = true := by simp
            have t4 : (!(bs s).toList == (bs s).toList) = false := by rw [t3]; rfl
            have HES := Lib.hid hes
            obtain ⟨n, hn⟩ : ∃ n, n = l.length := ⟨_, rfl⟩
            have HN := Lib.hid hn
            rw [← hn] at HUN HRW hN1 hN5 d1 d2 wN hNlt
            obtain ⟨BD, hBD⟩ : ∃ BD, BD = bs (s.take j) := ⟨_, rfl⟩
            rw [← hBD] at hx3 HRW
            clear hd hbl hBD hT hes hR hn
            go_enter Try.func13, Try.ntmps13
            go_wp2_with fail
            refine (HUN.out _).mono ?_
            rintro e w1 ⟨rfl, rfl⟩
            go_wp2_with fail
            refine HRW.out.mono ?_
            rintro e w2 (⟨L, a, B, c, rfl, hel, hP, hLn, g2⟩ | ⟨L, a, rfl, hP, hLn, hno, g2⟩)
            · have hLl : L = l := Tb.at8_done hP (by rw [hLn, HN.out])
              subst hLl
              have hbd := rtbuild_any c hel.els hel.cap hel.most (okEl_may (Tb.isT_iff.1 HT.out).2.2.1)
              rw [(Tb.encS_yes HT.out).1, (Tb.encS_yes HT.out).2, HES.out] at hbd
              have HBD := Lib.hid hbd
              have HEL := Lib.hid hel.els
              have G2 := Lib.hid g2
              have HKY := Lib.hid (fun (W : World) (g : Kept w2 W) => rtkeys_any c (hel.els.kept g) (by omega))
              rw [hLn] at HBD HKY ⊢
              clear hbd hel hP g2
              go_wp2_with fail
              refine HBD.out.mono ?_
              rintro e w3 ⟨rfl, g3⟩
              have HK3 := Lib.hid (HKY.out w3 g3)
              have G3 := Lib.hid g3
              clear g3
              go_wp2_with fail
              refine HK3.out.mono ?_
              rintro e w4 ⟨B4, c4, rfl, ht, g4⟩
              have HM4 := Lib.hid (HMK.out w4 B4 c4 ht)
              have G4 := Lib.hid (kept_trans G3.out g4)
              clear ht g4
              go_wp2_with fail
              refine HM4.out.mono ?_
              rintro e w5 ⟨rfl, g5⟩
              have HE5 := Lib.hid ((HEL.out.kept G4.out).kept g5)
              have G5 := Lib.hid (kept_trans G2.out (kept_trans G4.out g5))
              clear g5
              obtain ⟨F, hF⟩ : ∃ F, F = bs (Tb.fl L) := ⟨_, rfl⟩
              rw [← hF]
              have HF := Lib.hid hF
              have HLN := Lib.hid hLn
              clear hF hLn
              go_wp2_with fail
              go_ret2
              refine .inl ⟨L, w5.heap.size, HD.out, rfl, ⟨B, c, ?_, HE5.out.kept ((Kept.refl _).alloc _)⟩, kept_trans G5.out ((Kept.refl _).alloc _)⟩
              rw [HLN.out, ← HF.out]
              exact malloc_new w5 _
            · exfalso
              rw [HN.out] at hLn hno
              obtain ⟨e0, q1, q2, q3⟩ := HHIT.out L a hP hLn
              exact hno e0 q1 q2 q3
    · have HD := Lib.hid (show Tb.dec s = none by
        cases hd : Tb.dec s with
        | none => rfl
        | some l => exact absurd (by rw [HJ.out.1]; exact (HFP.out l hd).2.1) hmg)
      have t1 : ((bs (s.drop j24)).toList == [115, 99, 114, 101, 101, 48, 48, 49]) = false := by
        rw [Lib.toList_data, bs_data, beq_eq_false_iff_ne]
        exact hmg
      have t2 : (!(bs (s.drop j24)).toList == [115, 99, 114, 101, 101, 48, 48, 49]) = true := by rw [t1]; rfl
      obtain ⟨X, hX⟩ : ∃ X, X = bs (s.drop j24) := ⟨_, rfl⟩
      rw [← hX] at hx1 t1 t2
      clear hmg hX
      go_enter Try.func13, Try.ntmps13
      go_wp2_with fail
      go_ret2
      exact .inr ⟨HD.out, rfl, Kept.refl _⟩
end Go.Proofs.Ytecjnebfhbdnaaa
