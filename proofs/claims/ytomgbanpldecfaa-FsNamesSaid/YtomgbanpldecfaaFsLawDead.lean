/-
  FsDead of the statements of layer 3 returns true, whatever acts.
-/
import Derived.Test.YtomgbanpldecfaaFsLawPlay
namespace Go.Proofs.Ytomgbanpldecfaa
open Go.ChangeShapes Go.WideShapes Go.ChangeAt Go.RowKit Go.Maps
set_option linter.unusedVariables false
set_option maxHeartbeats 400000

theorem large_no {x : FsAct} (h : x.large = false) : x.a.size ≤ 100 ∧ x.b.size ≤ 1000 ∧ x.k.length ≤ 100 := by
  simp [FsAct.large] at h; omega
set_option maxRecDepth 100000 in
set_option maxHeartbeats 8000000 in
theorem FsDead_walk (A : Option Addr) (cap : Nat) (l : List FsAct) {w : World} (ha : ActsIn w.heap.size w A l) (hll : l.length ≤ maxLen) :
    Calls Try.prog 4 #[.slice A l.length cap] w fun e w' => e = .returned (.bool true) ∧ Kept w w' := by
  unfold maxLen at hll
  have hnw : ∀ W, Kept w W → Calls Try.prog 9 #[] W fun e w' => ∃ p, e = .returned (.pointer (some ⟨p, 0, none⟩)) ∧ Dk (fun b => b < w.heap.size) w' p Fs.new ∧ Kp (fun b => b < w.heap.size) W w' := fun W hW => new_any (fun b hb => Nat.lt_of_lt_of_le hb (Below.size hW))
  go_enter Try.func4, Try.ntmps4
  go_wp2_with (first
    | (go_at_call 8; refine (awake_any _).mono ?_; rintro e w1 ⟨rfl, g1⟩)
    | (go_at_call 9; refine (hnw _ g1).mono ?_; rintro e w2 ⟨p, rfl, d2, k2⟩))
  have HN := Lib.hid hnw; clear hnw
  have kw2 : Kp (fun b => b < w.heap.size) w w2 := (kp_kept g1 (fun b hb => hb)).trans k2
  clear k2 g1
  go_loopw [4] (fun t wr => ∃ (k : Nat) (m : Fs.Dsk), k ≤ l.length ∧ k ≤ 100 ∧ t = .int .i64 k ∧ Dk (fun b => b < w.heap.size) wr p m ∧ Fs.tot m.files ≤ 1000 * k ∧ m.pend.length ≤ k ∧ Kp (fun b => b < w.heap.size) w wr) (fun t _ => l.length - (intOf t).toNat)
  case atStart => exact ⟨0, Fs.new, Nat.zero_le _, by omega, rfl, d2, by simp [Fs.new, Fs.tot], by simp [Fs.new], kw2⟩
  case round =>
    obtain ⟨k, m, hk1, hk2, rfl, ⟨G, h⟩, htot, hpend, kw⟩ := hrel
    clear d2 kw2
    by_cases hlt : k < l.length ∧ k < 100
    · obtain ⟨hlt, hlt2⟩ := hlt
      obtain ⟨x, hx⟩ : ∃ x, l[k]? = some x := ⟨_, List.getElem?_eq_getElem hlt⟩
      obtain ⟨b, o, hA, hact⟩ := (ha.kp kw) k x hx
      subst hA
      obtain ⟨hbB, c0, c1, c2, c3, ⟨ka, kc, c4, hks⟩, n1, a1, b1, kk1⟩ := hact
      have hlg := large_any x ka kc kk1 a1 b1
      cases hL : x.large
      · have hlg' : ∀ W, Calls Try.prog 10 #[.agg #[.int .i64 x.kind, .int .i64 x.n, .string x.a, .string x.b, .slice ka x.k.length kc]] W fun e w' => e = .returned (.bool false) ∧ Kept W w' := fun W => by have := hlg W; rw [hL] at this; exact this
        obtain ⟨hs1, hs2, hs3⟩ := large_no hL
        have HFT := Lib.hid (fplay_tot m x)
        have HFD := Lib.hid (fun hd hx8 => fplay_dead h.good hd x hx8)
        have HFW := Lib.hid (fplay_down (m := m) x)
        have HFC := Lib.hid (fplay_crash m x)
        have HCL := Lib.hid (fun n k => Fs.crash_loose h.good n k)
        clear hlg hL hx
        go_wp2_with fail
        refine (hlg' _).mono ?_
        rintro e w3 ⟨rfl, g3⟩
        have hk3 : Kept wr w3 := kept_trans ((Kept.refl wr).alloc _) g3
        have hb3 : w3.heap[wr.heap.size]? = some (.cells #[.int .i64 x.kind, .int .i64 x.n, .string x.a, .string x.b, .slice ka x.k.length kc] 29) := (Below.block g3 _ (by simp)).trans (heap_alloc_new wr _)
        have HB3 := Lib.hid hb3; clear hb3
        go_wp2_with fail
        refine (dead_any (h.kept hk3)).mono ?_
        rintro e w4 ⟨rfl, rfl⟩
        go_wp2_with fail
        refine (list_of (h.kept hk3) rfl).mono ?_
        rintro e w4 ⟨la, lc, rfl, o4, g4⟩
        clear o4
        have hk4 := kept_trans hk3 g4
        go_wp2_with fail
        refine (size_any (h.kept hk4)).mono ?_
        rintro e w5 ⟨rfl, g5⟩
        have hk5 := kept_trans hk4 g5
        have h5 := h.wide hk5
        have hb5 : w5.heap[wr.heap.size]? = some (.cells #[.int .i64 x.kind, .int .i64 x.n, .string x.a, .string x.b, .slice ka x.k.length kc] 29) := (Below.block (kept_trans g4 g5) _ (heap_lt HB3.out)).trans HB3.out
        have x0 := cell_of hb5 0 rfl
        have x1 := cell_of hb5 1 rfl
        have x2 := cell_of hb5 2 rfl
        have x3 := cell_of hb5 3 rfl
        have x4 := cell_of hb5 4 rfl
        simp only [List.getElem_toArray, List.getElem_cons_zero, List.getElem_cons_succ] at x0 x1 x2 x3 x4
        have HB5 := Lib.hid hb5; clear hb5
        have hbl : x.b.data.toList.length = x.b.size := by simp
        have hpl := play_any h5 x ka kc ((hks.kp (kp_kept hk5 h.lt)).mono (fun b hb => .inl hb)) hs3 a1 b1 n1 (by rw [hbl]; omega) (by omega)
        have HBL := Lib.hid hbl; clear hbl
        go_wp2_with fail
        refine hpl.mono ?_
        rintro e w6 ⟨rfl, ⟨G6, h6⟩, k6⟩
        have hb6 : w6.heap[wr.heap.size]? = some (.cells #[.int .i64 x.kind, .int .i64 x.n, .string x.a, .string x.b, .slice ka x.k.length kc] 29) := (k6.block _ (.inr ⟨Nat.le_refl _, heap_lt HB5.out⟩)).trans HB5.out
        have y0 := cell_of hb6 0 rfl
        simp only [List.getElem_toArray, List.getElem_cons_zero] at y0
        have HB6 := Lib.hid hb6; clear hb6 x0 x1 x2 x3 x4
        have kw6 : Kp (fun b => b < w.heap.size) w w6 := kw.trans ((kp_kept hk5 h.lt).trans (k6.mono (fun b hb => .inl hb)))
        have htot6 : Fs.tot (fplay m x).1.files ≤ 1000 * (k + 1) := by have := HFT.out.1; rw [HBL.out] at this; omega
        have hpend6 : (fplay m x).1.pend.length ≤ k + 1 := by have := HFT.out.2; omega
        by_cases h8 : x.kind = 8
        · have e8 : (x.kind == 8) = true := by simp [h8]
          have hfc := HFC.out h8
          have hfd : (fplay m x).1.dead = false := by rw [hfc]; rfl
          have hfp : (fplay m x).1.pend.length = 0 := by rw [hfc]; rfl
          have hfl : Fs.loose (fplay m x).1 = 0 := by rw [hfc]; exact HCL.out _ _
          have hlo := loose_of h6 hfp hfl
          have hde : ∀ W, Kept w6 W → Calls Try.prog 18 #[.pointer (some ⟨p, 0, none⟩)] W fun e w' => e = .returned (.bool false) ∧ W = w' := fun W hW => by have := dead_any (h6.kept hW); rw [hfd] at this; exact this
          clear hfc hfd hfp hfl h8
          go_wp2_with fail
          refine hlo.mono ?_
          rintro e w7 ⟨rfl, g7⟩
          go_wp2_with fail
          refine (hde _ g7).mono ?_
          rintro e w8 ⟨rfl, rfl⟩
          go_wp2
          go_roundw
          case rel => exact ⟨k + 1, _, by omega, by omega, by go_num, ⟨G6, (h6.kept g7).narrow (fun b hb => .inl hb)⟩, htot6, hpend6, kw6.trans (kp_kept g7 (fun b hb => h6.lt b (.inl hb)))⟩
          case measure => simp [intOf]; omega
        · have e8 : (x.kind == 8) = false := by simpa using h8
          have hfd := HFD.out
          have hfw := HFW.out
          generalize hM : (fplay m x).1 = M at h6 htot6 hpend6 hfd hfw
          generalize hE : (fplay m x).2 = E at hfd hfw
          have HM := Lib.hid hM; have HE := Lib.hid hE; clear hM hE HFD HFW HFT HFC HCL hpl HN
          have nar : ∀ W, Kept w6 W → Dk (fun b => b < w.heap.size) W p M ∧ Kp (fun b => b < w.heap.size) w W := fun W hW => ⟨⟨G6, (h6.kept hW).narrow (fun b hb => .inl hb)⟩, kw6.trans (kp_kept hW (fun b hb => h6.lt b (.inl hb)))⟩
          by_cases hd : m.dead = true
          · obtain ⟨⟨hMd, hMn, hMs⟩, hE0⟩ := hfd hd h8
            have hde : ∀ W, Kept w6 W → Calls Try.prog 18 #[.pointer (some ⟨p, 0, none⟩)] W fun e w' => e = .returned (.bool true) ∧ W = w' := fun W hW => by have := dead_any (h6.kept hW); rw [hMd] at this; exact this
            have hli : ∀ W, Kept w6 W → Calls Try.prog 19 #[.pointer (some ⟨p, 0, none⟩)] W fun e w' => ∃ a c, e = .returned (.slice a m.names.length c) ∧ Kept W w' := fun W hW => (list_of (h6.kept hW) (by rw [hMn])).mono fun e w' ⟨a, c, he, _, hk⟩ => ⟨a, c, he, hk⟩
            have hsi : ∀ W, Kept w6 W → Calls Try.prog 20 #[.pointer (some ⟨p, 0, none⟩)] W fun e w' => e = .returned (.int .i64 (Fs.size m)) ∧ Kept W w' := fun W hW => by have := size_any (h6.kept hW); rw [hMs] at this; exact this
            have hsl := Fs.size_le h.good
            rw [hd]
            clear hfd hfw hd hMd hMn hMs h8
            by_cases hE3 : E = 30
            · subst hE3
              clear hE0
              go_wp2_with fail
              refine (hde _ (Kept.refl _)).mono ?_
              rintro e w7 ⟨rfl, rfl⟩
              go_wp2_with fail
              refine (hde _ (Kept.refl _)).mono ?_
              rintro e w7 ⟨rfl, rfl⟩
              go_wp2_with fail
              refine (hli _ (Kept.refl _)).mono ?_
              rintro e w7 ⟨a7, c7, rfl, g7⟩
              go_wp2_with fail
              refine (hsi _ g7).mono ?_
              rintro e w8 ⟨rfl, g8⟩
              go_wp2
              go_roundw
              case rel => exact ⟨k + 1, M, by omega, by omega, by go_num, (nar _ (kept_trans g7 g8)).1, htot6, hpend6, (nar _ (kept_trans g7 g8)).2⟩
              case measure => simp [intOf]; omega
            · have b30 : (E == 30) = false := by simpa using hE3
              by_cases hEz : E = 0
              · have hkk := hE0 hEz
                subst hEz
                clear hE0 hE3 b30
                go_wp2_with fail
                refine (hde _ (Kept.refl _)).mono ?_
                rintro e w7 ⟨rfl, rfl⟩
                go_wp2_with fail
                refine (hli _ (Kept.refl _)).mono ?_
                rintro e w7 ⟨a7, c7, rfl, g7⟩
                go_wp2_with fail
                refine (hsi _ g7).mono ?_
                rintro e w8 ⟨rfl, g8⟩
                have y8 : w8.cell? ⟨wr.heap.size, 0, none⟩ = some (.int .i64 x.kind) := cell_of ((Below.block (kept_trans g7 g8) _ (heap_lt HB6.out)).trans HB6.out) 0 rfl
                by_cases hk0 : 0 ≤ x.kind
                · have hk5' : 5 < x.kind := by omega
                  clear hkk
                  go_wp2
                  go_roundw
                  case rel => exact ⟨k + 1, M, by omega, by omega, by go_num, (nar _ (kept_trans g7 g8)).1, htot6, hpend6, (nar _ (kept_trans g7 g8)).2⟩
                  case measure => simp [intOf]; omega
                · have hk5' : x.kind < 0 := by omega
                  clear hkk
                  go_wp2
                  go_roundw
                  case rel => exact ⟨k + 1, M, by omega, by omega, by go_num, (nar _ (kept_trans g7 g8)).1, htot6, hpend6, (nar _ (kept_trans g7 g8)).2⟩
                  case measure => simp [intOf]; omega
              · have bz : (E == 0) = false := by simpa using hEz
                clear hE0 hE3 hEz
                go_wp2_with fail
                refine (hde _ (Kept.refl _)).mono ?_
                rintro e w7 ⟨rfl, rfl⟩
                go_wp2_with fail
                refine (hli _ (Kept.refl _)).mono ?_
                rintro e w7 ⟨a7, c7, rfl, g7⟩
                go_wp2_with fail
                refine (hsi _ g7).mono ?_
                rintro e w8 ⟨rfl, g8⟩
                go_wp2
                go_roundw
                case rel => exact ⟨k + 1, M, by omega, by omega, by go_num, (nar _ (kept_trans g7 g8)).1, htot6, hpend6, (nar _ (kept_trans g7 g8)).2⟩
                case measure => simp [intOf]; omega
          · rw [Bool.not_eq_true] at hd
            rw [hd]
            clear hfd hd h8
            by_cases hE3 : E = 30
            · have hMd := hfw hE3
              have hde : ∀ W, Kept w6 W → Calls Try.prog 18 #[.pointer (some ⟨p, 0, none⟩)] W fun e w' => e = .returned (.bool true) ∧ W = w' := fun W hW => by have := dead_any (h6.kept hW); rw [hMd] at this; exact this
              subst hE3
              clear hfw hMd
              go_wp2_with fail
              refine (hde _ (Kept.refl _)).mono ?_
              rintro e w7 ⟨rfl, rfl⟩
              go_wp2
              go_roundw
              case rel => exact ⟨k + 1, M, by omega, by omega, by go_num, (nar _ (Kept.refl _)).1, htot6, hpend6, (nar _ (Kept.refl _)).2⟩
              case measure => simp [intOf]; omega
            · have b30 : (E == 30) = false := by simpa using hE3
              clear hE3 hfw
              go_wp2
              go_roundw
              case rel => exact ⟨k + 1, M, by omega, by omega, by go_num, (nar _ (Kept.refl _)).1, htot6, hpend6, (nar _ (Kept.refl _)).2⟩
              case measure => simp [intOf]; omega
      · have hlg' : ∀ W, Calls Try.prog 10 #[.agg #[.int .i64 x.kind, .int .i64 x.n, .string x.a, .string x.b, .slice ka x.k.length kc]] W fun e w' => e = .returned (.bool true) ∧ Kept W w' := fun W => by have := hlg W; rw [hL] at this; exact this
        clear hlg hL hx
        go_wp2_with (go_at_call 10; refine (hlg' _).mono ?_; rintro e w3 ⟨rfl, g3⟩)
        go_ret
        exact ⟨rfl, kept_trans (kw.below (fun i hi => hi)) (kept_trans ((Kept.refl wr).alloc _) g3)⟩
    · have hge : ¬ (k < l.length) ∨ ¬ (k < 100) := by omega
      clear hlt
      by_cases hlt : k < l.length
      · have hk100 : ¬ (k < 100) := by omega
        clear hge
        go_wp2
        go_ret
        exact ⟨rfl, kw.below (fun i hi => hi)⟩
      · clear hge
        go_wp2
        go_ret
        exact ⟨rfl, kw.below (fun i hi => hi)⟩
end Go.Proofs.Ytomgbanpldecfaa
