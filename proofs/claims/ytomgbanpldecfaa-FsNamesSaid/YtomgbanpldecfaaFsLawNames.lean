/-
  FsNames of the statements of layer 3 returns true, whatever acts.
-/
import Derived.Test.YtomgbanpldecfaaFsLawLoose
import Derived.Test.YtomgbanpldecfaaFsNamesMath
namespace Go.Proofs.Ytomgbanpldecfaa
open Go.ChangeShapes Go.WideShapes Go.ChangeAt Go.RowKit Go.Maps
set_option linter.unusedVariables false
set_option maxHeartbeats 400000

/-- a text isn't before another -/
@[go_sem] theorem geq_texts (t : TypeId) (a b : ByteArray) : binOp .geq t (.string a) (.string b) = pure (.bool !(Op.bytesLess a.toList b.toList)) := by simp [binOp, Op.stringOp]
theorem fplay_ren (m : Fs.Dsk) (x : FsAct) (hx : x.kind = 3) : fplay m x = Fs.rename m x.a.data.toList x.b.data.toList := by
  unfold fplay
  simp [hx]
theorem fplay_app (m : Fs.Dsk) (x : FsAct) (hx : x.kind = 1) : fplay m x = Fs.append m x.a.data.toList x.b.data.toList := by
  unfold fplay
  simp [hx]
theorem cat_of (y : List UInt8) (b : ByteArray) : bs y ++ b = bs (y ++ b.data.toList) := bs_of (by simp [bs, ByteArray.data_append])
theorem same_eq (a b : ByteArray) : (a.data.toList == b.data.toList) = (a.toList == b.toList) := by rw [Lib.toList_data, Lib.toList_data]
theorem less_of {x y : List UInt8} (h : bytesBefore x y = true) : Op.bytesLess (bs x).toList (bs y).toList = true := by
  rw [Lib.toList_data, Lib.toList_data, bs_data, bs_data, bytesLess_eq]
  exact decide_eq_true ((before_lt x y).1 h)
set_option maxRecDepth 100000 in
set_option maxHeartbeats 8000000 in
theorem FsNames_walk (A : Option Addr) (cap : Nat) (l : List FsAct) {w : World} (ha : ActsIn w.heap.size w A l) (hll : l.length ≤ maxLen) :
    Calls Try.prog 5 #[.slice A l.length cap] w fun e w' => e = .returned (.bool true) ∧ Kept w w' := by
  unfold maxLen at hll
  have hnw : ∀ W, Kept w W → Calls Try.prog 9 #[] W fun e w' => ∃ p, e = .returned (.pointer (some ⟨p, 0, none⟩)) ∧ Dk (fun b => b < w.heap.size) w' p Fs.new ∧ Kp (fun b => b < w.heap.size) W w' := fun W hW => new_any (fun b hb => Nat.lt_of_lt_of_le hb (Below.size hW))
  go_enter Try.func5, Try.ntmps5
  go_wp2_with (first
    | (go_at_call 8; refine (awake_any _).mono ?_; rintro e w1 ⟨rfl, g1⟩)
    | (go_at_call 9; refine (hnw _ g1).mono ?_; rintro e w2 ⟨p, rfl, d2, k2⟩))
  clear hnw
  have kw2 : Kp (fun b => b < w.heap.size) w w2 := (kp_kept g1 (fun b hb => hb)).trans k2
  clear k2 g1
  go_loopw [4] (fun t wr => ∃ (k : Nat) (m : Fs.Dsk), k ≤ l.length ∧ k ≤ 100 ∧ t = .int .i64 k ∧ Dk (fun b => b < w.heap.size) wr p m ∧ Fs.tot m.files ≤ 1000 * k ∧ m.pend.length ≤ k ∧ Kp (fun b => b < w.heap.size) w wr) (fun t _ => l.length - (intOf t).toNat)
  case atStart => exact ⟨0, Fs.new, Nat.zero_le _, by omega, rfl, d2, by simp [Fs.new, Fs.tot], by simp [Fs.new], kw2⟩
  case round =>
    obtain ⟨k, m, hk1, hk2, rfl, ⟨G, h⟩, htot, hpend, kw⟩ := hrel
    clear d2 kw2
    by_cases hlt : k < l.length ∧ k < 100
    · obtain ⟨hlt, hlt2⟩ := hlt
      obtain ⟨x, hx⟩ : ∃ x, l[k]? = some x := ⟨_, List.getElem?_eq_getElem hlt⟩
      obtain ⟨b, o, hA, hact⟩ := (ha.kp kw) k x hx
      subst hA
      obtain ⟨hbB, c0, c1, c2, c3, ⟨ka, kc, c4, hks⟩, n1, a1, b1, kk1⟩ := hact
      have hlg := large_any x ka kc kk1 a1 b1
      cases hL : x.large
      · have hlg' : ∀ W, Calls Try.prog 10 #[.agg #[.int .i64 x.kind, .int .i64 x.n, .string x.a, .string x.b, .slice ka x.k.length kc]] W fun e w' => e = .returned (.bool false) ∧ Kept W w' := fun W => by have := hlg W; rw [hL] at this; exact this
        obtain ⟨hs1, hs2, hs3⟩ := large_no hL
        have HFT := Lib.hid (fplay_tot m x)
        clear hlg hL hx
        go_wp2_with fail
        refine (hlg' _).mono ?_
        rintro e w3 ⟨rfl, g3⟩
        have hk3 : Kept wr w3 := kept_trans ((Kept.refl wr).alloc _) g3
        have hb3 : w3.heap[wr.heap.size]? = some (.cells #[.int .i64 x.kind, .int .i64 x.n, .string x.a, .string x.b, .slice ka x.k.length kc] 29) := (Below.block g3 _ (by simp)).trans (heap_alloc_new wr _)
        have x0 := cell_of hb3 0 rfl
        have x1 := cell_of hb3 1 rfl
        have x2 := cell_of hb3 2 rfl
        have x3 := cell_of hb3 3 rfl
        have x4 := cell_of hb3 4 rfl
        simp only [List.getElem_toArray, List.getElem_cons_zero, List.getElem_cons_succ] at x0 x1 x2 x3 x4
        have HB3 := Lib.hid hb3; clear hb3
        clear c0 c1 c2 c3 c4
        by_cases h7 : x.kind = 7
        · have e7 : (x.kind == 7) = true := by simp [h7]
          clear h7
          go_wp2
          go_roundw
          case rel => exact ⟨k + 1, m, by omega, by omega, by go_num, ⟨G, h.kept hk3⟩, by omega, by omega, kw.trans (kp_kept hk3 h.lt)⟩
          case measure => simp [intOf]; omega
        · have e7 : (x.kind == 7) = false := by simpa using h7
          have HRN := Lib.hid (fun (h3 : x.kind = 3) (e : (fplay m x).2 = 0) => by have := fplay_ren m x h3; rw [this] at e; have := Fs.rename_reads h.good e; rw [← fplay_ren m x h3] at this; exact this)
          have HAP := Lib.hid (fun (h3 : x.kind = 1) (e : (fplay m x).2 = 0) => by have := fplay_app m x h3; rw [this] at e; have := Fs.append_reads h.good e; rw [← fplay_app m x h3] at this; exact this)
          obtain ⟨y, c, hyc⟩ : ∃ y c, Fs.read m x.a.data.toList = (y, c) := ⟨_, _, rfl⟩
          have hrd := read_of (h.kept hk3) x.a a1 hyc
          have h5 := h.wide hk3
          have hbl : x.b.data.toList.length = x.b.size := by simp
          have hpl := play_any h5 x ka kc ((hks.kp (kp_kept hk3 h.lt)).mono (fun b hb => .inl hb)) hs3 a1 b1 n1 (by rw [hbl]; omega) (by omega)
          have HBL := Lib.hid hbl; clear hbl
          have HYC := Lib.hid hyc; clear hyc
          go_wp2_with fail
          refine hrd.mono ?_
          rintro e w4 ⟨rfl, rfl⟩
          go_wp2_with fail
          refine hpl.mono ?_
          rintro e w6 ⟨rfl, ⟨G6, h6⟩, k6⟩
          have hb6 : w6.heap[wr.heap.size]? = some (.cells #[.int .i64 x.kind, .int .i64 x.n, .string x.a, .string x.b, .slice ka x.k.length kc] 29) := (k6.block _ (.inr ⟨Nat.le_refl _, heap_lt HB3.out⟩)).trans HB3.out
          have HB6 := Lib.hid hb6; clear hb6 x0 x1 x2 x3 x4
          have kw6 : Kp (fun b => b < w.heap.size) w w6 := kw.trans ((kp_kept hk3 h.lt).trans (k6.mono (fun b hb => .inl hb)))
          have htot6 : Fs.tot (fplay m x).1.files ≤ 1000 * (k + 1) := by have := HFT.out.1; rw [HBL.out] at this; omega
          have hpend6 : (fplay m x).1.pend.length ≤ k + 1 := by have := HFT.out.2; omega
          have hrn := HRN.out
          have hap := HAP.out
          rw [HYC.out] at hrn hap
          generalize hM : (fplay m x).1 = M at h6 htot6 hpend6 hrn hap
          generalize hE : (fplay m x).2 = E at hrn hap
          have HM := Lib.hid hM; have HE := Lib.hid hE; clear hM hE HFT hpl HRN HAP h5 hrd
          have HRN := Lib.hid hrn; have HAP := Lib.hid hap; clear hrn hap
          go_wp2_with fail
          refine (list_of h6 rfl).mono ?_
          rintro e w7 ⟨na, nc, rfl, o7, g7⟩
          have hst7 := strs_of o7 (fun b => b < w7.heap.size) (fun b _ hb => hb)
          have hgood := h6.good
          have hfew := hgood.dir.few
          have hsz := Fs.size_tot hgood
          have hb7 : w7.heap[wr.heap.size]? = some (.cells #[.int .i64 x.kind, .int .i64 x.n, .string x.a, .string x.b, .slice ka x.k.length kc] 29) := (Below.block g7 _ (heap_lt HB6.out)).trans HB6.out
          have h7' := h6.kept g7
          have nar : ∀ W, Kept w7 W → Dk (fun b => b < w.heap.size) W p M ∧ Kp (fun b => b < w.heap.size) w W := fun W hW => ⟨⟨G6, (h7'.kept hW).narrow (fun b hb => .inl hb)⟩, kw6.trans (kp_kept (kept_trans g7 hW) (fun b hb => h6.lt b (.inl hb)))⟩
          have HB7 := Lib.hid hb7; clear hb7 HB6 o7
          generalize hxb : wr.heap.size = xb at HB7 ⊢
          have HXB := Lib.hid hxb; clear hxb
          go_wp2
          go_loopw [53] (fun t wr => ∃ q : Nat, q ≤ M.names.length ∧ t = .int .i64 q ∧ Kept w7 wr) (fun t _ => M.names.length - (intOf t).toNat)
          case atStart => exact ⟨0, Nat.zero_le _, rfl, Kept.refl _⟩
          case round =>
            obtain ⟨q, hq, rfl, hkr⟩ := hrel
            by_cases hql : q < M.names.length
            · have hpq : M.names[q]? = some M.names[q] := List.getElem?_eq_getElem hql
              have hmem : M.names[q] ∈ M.names := List.getElem_mem hql
              have hmay := (hgood.dir.each _ hmem).1
              have hlq : (Fs.list M)[q]? = some M.names[q].1 := by unfold Fs.list; rw [List.getElem?_map, hpq]; rfl
              obtain ⟨r1, hna, hr1, cq⟩ := (hst7.kp (kp_kept hkr (fun b hb => hb))) q _ hlq
              have hris := fun j y hy (e : j + 1 = q) => Fs.list_rise hgood (j := j) (x := y) hy (by rw [e]; exact hlq)
              generalize M.names[q].1 = xn at hmay cq hris
              subst hna
              have hnl : (bs xn).size ≤ maxLen := by rw [bs_len]; have := (Fs.may_le hmay).2; unfold maxLen; omega
              have hmc : ∀ W, Calls Try.prog 22 #[.string (bs xn)] W fun e w' => e = .returned (.bool true) ∧ W = w' := fun W => may_of _ W hnl hmay
              cases q with
              | zero =>
                clear hris hmay hlq hmem hpq hnl
                go_wp2
                go_quiet ((go_at_call 22; exact quiet_f (hmc _)))
                go_wp2
                go_roundw
                case rel => exact ⟨1, by omega, by go_num, kept_trans hkr (kept_drewN _ _)⟩
                case measure => simp [intOf]; omega
              | succ r =>
                have hpr : M.names[r]? = some M.names[r] := List.getElem?_eq_getElem (by omega)
                have hlr : (Fs.list M)[r]? = some M.names[r].1 := by unfold Fs.list; rw [List.getElem?_map, hpr]; rfl
                obtain ⟨r2, hna, hr2, cr⟩ := (hst7.kp (kp_kept hkr (fun b hb => hb))) r _ hlr
                cases hna
                have hless := less_of (hris r _ hlr rfl)
                generalize M.names[r].1 = yn at hless cr
                clear hris hmay hlq hmem hpq hnl hpr hlr
                have q0 : (0 : Int) < ((r + 1 : Nat) : Int) := by omega
                have q1 : ((r + 1 : Nat) : Int) < (M.names.length : Int) := by omega
                have q2 : IntKind.i64.wrap (((r + 1 : Nat) : Int) - 1) = (r : Int) := by rw [IntWalk.i64_in _ (by omega)]; omega
                have q3 : (r : Int) < (M.names.length : Int) := by omega
                go_wp2
                go_quiet ((go_at_call 22; exact quiet_f (hmc _)))
                go_wp2
                go_roundw
                case rel => exact ⟨r + 1 + 1, by omega, by go_num, kept_trans hkr (kept_drewN _ _)⟩
                case measure => simp [intOf]; omega
            · have hb8 : ∀ W, Kept w7 W → W.heap[xb]? = some (.cells #[.int .i64 x.kind, .int .i64 x.n, .string x.a, .string x.b, .slice ka x.k.length kc] 29) := fun W hW => (Below.block hW _ (heap_lt HB7.out)).trans HB7.out
              have HB8 := Lib.hid hb8; clear hb8
              go_wp2_with fail
              refine (size_of (h7'.kept hkr) rfl).mono ?_
              rintro e w8 ⟨rfl, g8⟩
              have hkr8 := kept_trans hkr g8
              have hb8 := HB8.out _ hkr8
              have x0 := cell_of hb8 0 rfl
              have x2 := cell_of hb8 2 rfl
              have x3 := cell_of hb8 3 rfl
              simp only [List.getElem_toArray, List.getElem_cons_zero, List.getElem_cons_succ] at x0 x2 x3
              clear hb8
              have hs8 : Fs.size M ≤ 1048576 := by omega
              generalize Fs.size M = sz at hs8 ⊢
              by_cases h3 : x.kind = 3
              · have e3 : (x.kind == 3) = true := by simp [h3]
                have e1 : (x.kind == 1) = false := by simp [h3]
                by_cases hE : E = 0
                · obtain ⟨y', hy, hrb, z, c', hra, hcc⟩ := HRN.out h3 hE
                  cases hy
                  subst hE
                  clear h3 h7 e7
                  go_wp2_with fail
                  refine (read_of (h7'.kept hkr8) x.b b1 hrb).mono ?_
                  rintro e w9 ⟨rfl, rfl⟩
                  go_wp2_with fail
                  refine (read_of (h7'.kept hkr8) x.a a1 hra).mono ?_
                  rintro e w9 ⟨rfl, rfl⟩
                  rw [same_eq] at hcc
                  go_wp2
                  go_roundw
                  case rel => exact ⟨k + 1, M, by omega, by omega, by go_num, (nar _ hkr8).1, htot6, hpend6, (nar _ hkr8).2⟩
                  case measure => simp [intOf]; omega
                · have eE : (E == 0) = false := by simpa using hE
                  clear h3 h7 e7
                  go_wp2
                  go_roundw
                  case rel => exact ⟨k + 1, M, by omega, by omega, by go_num, (nar _ hkr8).1, htot6, hpend6, (nar _ hkr8).2⟩
                  case measure => simp [intOf]; omega
              · have e3 : (x.kind == 3) = false := by simpa using h3
                by_cases h1 : x.kind = 1
                · have e1 : (x.kind == 1) = true := by simp [h1]
                  by_cases hE : E = 0
                  · obtain ⟨y', hy, hra⟩ := HAP.out h1 hE
                    cases hy
                    subst hE
                    clear h3 h7 e7 h1
                    go_wp2_with fail
                    refine (read_of (h7'.kept hkr8) x.a a1 hra).mono ?_
                    rintro e w9 ⟨rfl, rfl⟩
                    have hyl : ¬ 9223372036854775807 < (bs y).size + x.b.size := by have := Fs.read_len h.good x.a.data.toList; rw [HYC.out] at this; rw [bs_len]; simp only at this; omega
                    have hct : ((bs (y ++ x.b.data.toList)).toList == (bs y ++ x.b).toList) = true := by rw [cat_of]; simp
                    go_wp2
                    go_roundw
                    case rel => exact ⟨k + 1, M, by omega, by omega, by go_num, (nar _ hkr8).1, htot6, hpend6, (nar _ hkr8).2⟩
                    case measure => simp [intOf]; omega
                  · have eE : (E == 0) = false := by simpa using hE
                    clear h3 h7 e7 h1
                    go_wp2
                    go_roundw
                    case rel => exact ⟨k + 1, M, by omega, by omega, by go_num, (nar _ hkr8).1, htot6, hpend6, (nar _ hkr8).2⟩
                    case measure => simp [intOf]; omega
                · have e1 : (x.kind == 1) = false := by simpa using h1
                  clear h3 h7 e7 h1
                  go_wp2
                  go_roundw
                  case rel => exact ⟨k + 1, M, by omega, by omega, by go_num, (nar _ hkr8).1, htot6, hpend6, (nar _ hkr8).2⟩
                  case measure => simp [intOf]; omega
      · have hlg' : ∀ W, Calls Try.prog 10 #[.agg #[.int .i64 x.kind, .int .i64 x.n, .string x.a, .string x.b, .slice ka x.k.length kc]] W fun e w' => e = .returned (.bool true) ∧ Kept W w' := fun W => by have := hlg W; rw [hL] at this; exact this
        clear hlg hL hx
        go_wp2_with (go_at_call 10; refine (hlg' _).mono ?_; rintro e w3 ⟨rfl, g3⟩)
        go_ret
        exact ⟨rfl, kept_trans (kw.below (fun i hi => hi)) (kept_trans ((Kept.refl wr).alloc _) g3)⟩
    · have hge : ¬ (k < l.length) ∨ ¬ (k < 100) := by omega
      clear hlt
      by_cases hlt : k < l.length
      · have hk100 : ¬ (k < 100) := by omega
        clear hge
        go_wp2
        go_ret
        exact ⟨rfl, kw.below (fun i hi => hi)⟩
      · clear hge
        go_wp2
        go_ret
        exact ⟨rfl, kw.below (fun i hi => hi)⟩
end Go.Proofs.Ytomgbanpldecfaa
