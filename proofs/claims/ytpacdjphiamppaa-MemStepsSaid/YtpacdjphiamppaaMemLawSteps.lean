/-
  The walk of MemSteps.
-/
import Derived.Test.YtpacdjphiamppaaMemWake
import Derived.Test.YtpacdjphiamppaaMemLawMath
import Derived.Test.YtpacdjphiamppaaMemTwo
import Derived.Deep.RegionHeld3
namespace Go.Proofs.Ytpacdjphiamppaa
open Go.ChangeShapes Go.WideShapes Go.ChangeAt Go.RowKit
set_option linter.unusedVariables false
set_option maxRecDepth 100000
set_option maxHeartbeats 4000000

theorem box_key {w w1 : World} {v : Value} {t : TypeId} {o : Obj} (k : Kept ((w.alloc (.cells #[v] t)).alloc o) w1) : w1.cell? ⟨w.heap.size, 0, none⟩ = some v ∧ Kept w w1 :=
  ⟨mcell ((Below.block k _ (by simp only [World.size_alloc]; omega)).trans ((malloc_old _ _ (by rw [malloc_size]; omega)).trans (malloc_new w _))) 0 rfl, kept_trans (((Kept.refl w).alloc _).alloc _) k⟩
theorem count_any {W w : World} {p : Nat} {T : List Mm.Tv} (h : Ts W w p T) {K : List UInt8} {S kb sb : Nat} (hkb : w.heap[kb]? = some (.cells #[.string (bs K)] 9)) (hsb : w.heap[sb]? = some (.cells #[.int .u64 (S : Nat)] 23)) :
    Calls Try.prog 28 #[.pointer (some ⟨p, 0, none⟩), .pointer (some ⟨kb, 0, none⟩), .pointer (some ⟨sb, 0, none⟩)] w fun e w' => e = .returned (.int .i64 ((Mm.A T K S).length : Nat)) ∧ Kept w w' := by
  have hg := h.tab.good
  have hf := h.tab.few
  have hc := mall_any h.tab
  have hcnt := hg.cnt K S
  have hel := Mm.ents_len T
  rw [← hcnt]
  generalize Mm.ents T = E at *
  generalize hTL : T.length = TL at *
  have HEL := Lib.hid hel
  have k0 := mheap_lt hkb; have s0 := mheap_lt hsb
  have KB := Lib.hid hkb; have SB := Lib.hid hsb
  have HST := Lib.hid (fun i y (hy : E[i]? = some y) => Mm.cnt_step (p := fun e => Mm.Ent.ah e K S) hy)
  have HLE := Lib.hid (fun i => Mm.cnt_le (p := fun e => Mm.Ent.ah e K S) (E := E) i)
  have HTA := Lib.hid (show (E.filter (fun e => Mm.Ent.ah e K S)).length = ((E.take TL).filter (fun e => Mm.Ent.ah e K S)).length by rw [List.take_of_length_le (by omega)])
  clear h hg hcnt hkb hsb hel hTL
  generalize hFF : (fun i => ((E.take i).filter (fun e => Mm.Ent.ah e K S)).length) = ff
  have HFF : Hid (∀ i, ((E.take i).filter (fun e => Mm.Ent.ah e K S)).length = ff i) := Lib.hid (fun i => by rw [← hFF])
  rw [HTA.out, HFF.out]
  clear hFF HTA
  have HST2 : Hid (∀ i y, E[i]? = some y → ff (i + 1) = ff i + (if Mm.Ent.ah y K S then 1 else 0)) := Lib.hid (fun i y hy => by rw [← HFF.out, ← HFF.out]; exact HST.out i y hy)
  have HLE2 : Hid (∀ i, ff i ≤ TL) := Lib.hid (fun i => by rw [← HFF.out, ← HEL.out]; exact HLE.out i)
  have H0 : Hid (ff 0 = 0) := Lib.hid (by rw [← HFF.out]; rfl)
  clear HST HLE HFF
  go_enter Try.func28, Try.ntmps28
  go_wp2_with fail
  refine hc.mono ?_
  rintro e w1 ⟨B, c, rfl, l1, g1⟩
  have L1 := Lib.hid l1.els
  clear l1 hc
  go_wp2_with fail
  go_loopw [5, 11] (fun n t wi => ∃ i : Nat, i ≤ TL ∧ t = .int .i64 i ∧ n = .int .i64 (ff i : Nat) ∧ Kept w1 wi) (fun _ t _ => TL - (intOf t).toNat)
  case atStart => exact ⟨0, Nat.zero_le _, rfl, by rw [H0.out]; rfl, Kept.refl _⟩
  case round =>
    obtain ⟨i, hi, rfl, rfl, ki⟩ := hrel
    have k1 := kept_trans g1 ki
    by_cases hit : i < TL
    · obtain ⟨y, hy⟩ : ∃ y, E[i]? = some y := ⟨_, List.getElem?_eq_getElem (by rw [HEL.out]; exact hit)⟩
      obtain ⟨b, o, rfl, hb, c0, c1, c2, c3⟩ := (L1.out.kept ki) i y hy
      have u0 := mcell ((Below.block k1 _ k0).trans KB.out) 0 rfl
      have u1 := mcell ((Below.block k1 _ s0).trans SB.out) 0 rfl
      have k0' : kb < wr.heap.size := Nat.lt_of_lt_of_le k0 (Below.size k1)
      have s0' : sb < wr.heap.size := Nat.lt_of_lt_of_le s0 (Below.size k1)
      have hah := rahead_any y.key y.seq K S
      have hst := HST2.out i y hy
      have hle := HLE2.out i
      rw [show Mm.ahd y.key y.seq K S = Mm.Ent.ah y K S from rfl] at hah
      clear hy
      cases hv : Mm.Ent.ah y K S with
      | true =>
        rw [hv] at hah hst
        simp only [if_true] at hst
        have HS := Lib.hid hst
        clear hst hv
        go_wp2_with fail
        refine (hah _).mono ?_
        rintro e w2 ⟨rfl, rfl⟩
        go_wp2_with fail
        go_roundw
        case rel => exact ⟨i + 1, by omega, by go_num, by rw [HS.out]; go_num, ki.alloc _⟩
        case measure => simp [intOf]; omega
      | false =>
        rw [hv] at hah hst
        simp only [Bool.false_eq_true, if_false, Nat.add_zero] at hst
        have HS := Lib.hid hst
        clear hst hv
        go_wp2_with fail
        refine (hah _).mono ?_
        rintro e w2 ⟨rfl, rfl⟩
        go_wp2_with fail
        go_roundw
        case rel => exact ⟨i + 1, by omega, by go_num, by rw [HS.out], ki.alloc _⟩
        case measure => simp [intOf]; omega
    · have e : i = TL := by omega
      subst e
      go_wp2_with fail
      go_ret
      exact ⟨rfl, k1⟩
theorem MemSteps_walk {w : World} (A : Option Addr) (cap : Nat) (l : List Pt) (key : ByteArray) (seq hgt : Int) (hA : Puts w A l) (hL : l.length ≤ maxLen ∧ PutsOk l) (hkey : key.size ≤ maxLen) (hseq : (Lit.int .u64 seq).wf = true) (hhgt : (Lit.int .u8 hgt).wf = true) :
    Calls Try.prog 8 #[.slice A l.length cap, .string key, .int .u64 seq, .int .u8 hgt] w fun e w' => e = .returned (.bool true) ∧ Kept w w' := by
  obtain ⟨hlen, hok⟩ := hL
  obtain ⟨hs1, hs2⟩ := bounds_u64 hseq
  obtain ⟨hh1, hh2⟩ := bounds_u8 hhgt
  obtain ⟨K, rfl⟩ : ∃ K, key = bs K := ⟨_, (mbs_self key).symm⟩
  obtain ⟨S, rfl⟩ : ∃ S : Nat, seq = (S : Int) := ⟨seq.toNat, by omega⟩
  obtain ⟨H, rfl⟩ : ∃ H : Nat, hgt = (H : Int) := ⟨hgt.toNat, by omega⟩
  obtain ⟨hc, hhc, hc1, hc8⟩ : ∃ hc : Nat, hc = 1 + H % 8 ∧ 1 ≤ hc ∧ hc ≤ 8 := ⟨_, rfl, by omega, by omega⟩
  have HHC : Hid ((1 + (H : Int) % 8) = (hc : Int)) := Lib.hid (by omega)
  clear hseq hhgt hhc
  unfold maxLen at hlen hkey
  have HOK := Lib.hid hok
  clear hok
  by_cases h300 : 300 < (bs K).size
  · have d1 : decide ((300 : Int) < ((bs K).size : Int)) = true := by simp; omega
    go_enter Try.func8, Try.ntmps8
    go_wp2_with fail
    refine (mawake_any _).mono ?_
    rintro e w1 ⟨rfl, g1⟩
    obtain ⟨u0, k1⟩ := box_key g1
    go_wp2_with fail
    go_ret
    exact ⟨rfl, k1⟩
  · have d1 : decide ((300 : Int) < ((bs K).size : Int)) = false := by simp; omega
    clear h300 hkey
    go_enter Try.func8, Try.ntmps8
    go_wp2_with fail
    have hkb0 : ((w.alloc (.cells #[.string (bs K)] 9)).alloc (.cells #[.int .u64 (S : Nat)] 23)).heap[w.heap.size]? = some (.cells #[.string (bs K)] 9) := (malloc_old _ _ (by rw [malloc_size]; omega)).trans (malloc_new w _)
    have hsb0 : ((w.alloc (.cells #[.string (bs K)] 9)).alloc (.cells #[.int .u64 (S : Nat)] 23)).heap[w.heap.size + 1]? = some (.cells #[.int .u64 (S : Nat)] 23) := by rw [← malloc_size w (.cells #[.string (bs K)] 9)]; exact malloc_new _ _
    have hk00 : Kept w ((w.alloc (.cells #[.string (bs K)] 9)).alloc (.cells #[.int .u64 (S : Nat)] 23)) := ((Kept.refl w).alloc _).alloc _
    generalize (w.alloc (.cells #[.string (bs K)] 9)).alloc (.cells #[.int .u64 (S : Nat)] 23) = w0 at *
    have hA0 := hA.kept hk00
    have k00 := Lib.hid hk00
    have KB := Lib.hid hkb0; have SB := Lib.hid hsb0
    clear hkb0 hsb0 hk00 hA
    generalize w.heap.size = kb at *
    refine (mawake_any _).mono ?_
    rintro e w1 ⟨rfl, g1⟩
    have g1s := Below.size g1
    have u0 := mcell ((Below.block g1 _ (mheap_lt KB.out)).trans KB.out) 0 rfl
    have u1 := mheap_lt ((Below.block g1 _ (mheap_lt KB.out)).trans KB.out)
    go_wp2_with fail
    refine (mnew_any _).mono ?_
    rintro e w2 ⟨rfl, t2, s2, g2⟩
    go_wp2_with fail
    refine (tw_new t2 g1s (kept_trans g1 g2)).mono ?_
    rintro e w3 ⟨rfl, t3⟩
    have T3 := Lib.hid t3
    clear t3 t2 g2 s2 g1 g1s
    generalize w1.heap.size = p at *
    generalize w2.heap.size = q at *
    go_wp2_with fail
    go_loopw [11] (fun t wr => ∃ (k : Nat) (T U : List Mm.Tv), k ≤ l.length ∧ k ≤ 200 ∧ t = .int .i64 k ∧ T.length ≤ k ∧ U.length ≤ k ∧ Hid (∀ z ∈ U, z.2 = hc) ∧ Hid (Tw w0 wr p q T U)) (fun t _ => l.length - (intOf t).toNat)
    case atStart => exact ⟨0, [], [], Nat.zero_le _, Nat.zero_le _, rfl, Nat.le_refl _, Nat.le_refl _, Lib.hid (by simp), T3⟩
    case round =>
      clear T3
      obtain ⟨k, T, U, hk, hk2, rfl, hTk, hUk, HR, HT⟩ := hrel
      by_cases hlt : k < l.length ∧ k < 200
      · obtain ⟨hlt1, hlt2⟩ := hlt
        have d2 : decide ((k : Int) < (l.length : Int)) = true := by simp; omega
        have d3 : decide ((k : Int) < 200) = true := by simp; omega
        obtain ⟨x, hx⟩ : ∃ x, l[k]? = some x := ⟨_, List.getElem?_eq_getElem hlt1⟩
        obtain ⟨q1, q2, q3, q4⟩ := HOK.out x (List.mem_of_getElem? hx)
        obtain ⟨b, o, rfl, hb, r0, r1, r2, r3, r4⟩ := hA0 k x hx
        have HC := Lib.hid (fun W (K : Kept w0 W) => (show W.cell? ⟨b, o + k * 5, none⟩ = some (.string (bs x.e.key)) ∧ W.cell? ⟨b, o + k * 5 + 1, none⟩ = some (.int .u64 (x.e.seq : Nat)) ∧ W.cell? ⟨b, o + k * 5 + 2, none⟩ = some (.bool x.e.del) ∧ W.cell? ⟨b, o + k * 5 + 3, none⟩ = some (.string (bs x.e.val)) ∧ W.cell? ⟨b, o + k * 5 + 4, none⟩ = some (.int .i64 x.h) from ⟨(kept_cell K hb).trans r0, (kept_cell K hb).trans r1, (kept_cell K hb).trans r2, (kept_cell K hb).trans r3, (kept_cell K hb).trans r4⟩))
        obtain ⟨c0, c1, c2, c3, c4⟩ := HC.out _ HT.out.kept
        have hcl := fun W => mlarge_any x.e W q1 q2
        have HPUT := Lib.hid (fun W T U z (hz : T.length < 1000) (h : Tw w0 W p q T U) => h.put hz x.e z q1 q2)
        have HPUT2 := Lib.hid (fun W T U z (hz : U.length < 1000) (h : Tw w0 W p q T U) => h.put2 hz x.e z q1 q2)
        unfold entV at hcl HPUT HPUT2
        clear hx r0 r1 r2 r3 r4
        cases hlg : (decide (300 < x.e.key.length) || decide (300 < x.e.val.length)) with
        | true =>
          rw [hlg] at hcl
          clear hlg
          go_wp2_with fail
          refine (hcl _).mono ?_
          rintro e w3 ⟨rfl, g3⟩
          have kk := kept_trans k00.out (kept_trans HT.out.kept g3)
          go_wp2_with fail
          go_ret
          exact ⟨rfl, kk⟩
        | false =>
          rw [hlg] at hcl
          clear hlg
          have HR2 : Hid (∀ z ∈ Mm.put U x.e (hc : Nat), z.2 = hc) := Lib.hid (Mm.put_high (c := hc) HR.out x.e)
          have l1 := Mm.put_len_le T x.e x.h
          have l2 := Mm.put_len_le U x.e (hc : Nat)
          have P1 := Lib.hid (fun W (h : Tw w0 W p q T U) => HPUT.out W T U x.h (by omega) h)
          have P2 := Lib.hid (fun W (h : Tw w0 W p q (Mm.put T x.e x.h) U) => HPUT2.out W _ U (hc : Nat) (by omega) h)
          clear HPUT HPUT2 HR
          go_wp2_with fail
          refine (hcl _).mono ?_
          rintro e w3 ⟨rfl, g3⟩
          have T3 := Lib.hid (HT.out.more g3)
          have T3d := Lib.hid (T3.out.more (kept_drewN _ 1))
          obtain ⟨z0, z1, z2, z3, z4⟩ := HC.out _ T3.out.kept
          clear c0 c1 c2 c3 c4 hcl HT
          go_wp2_with fail
          go_region_held3 (fun w' => w'.cell? ⟨b, o + k * 5, none⟩ = some (.string (bs x.e.key)) ∧ w'.cell? ⟨b, o + k * 5 + 1, none⟩ = some (.int .u64 (x.e.seq : Nat)) ∧ w'.cell? ⟨b, o + k * 5 + 2, none⟩ = some (.bool x.e.del) ∧ w'.cell? ⟨b, o + k * 5 + 3, none⟩ = some (.string (bs x.e.val)) ∧ w'.cell? ⟨b, o + k * 5 + 4, none⟩ = some (.int .i64 x.h)) (first | exact HC.out _ T3d.out.kept | exact HC.out _ (Tw.kept t4))
            ((go_at_call 13; refine (P1.out _ T3d.out).mono ?_; rintro e w4 ⟨rfl, t4⟩))
          all_goals
            have T4 := Lib.hid t4
            obtain ⟨y0, y1, y2, y3, y4⟩ := HC.out _ t4.kept
            clear t4 z0 z1 z2 z3 z4
            go_wp2_with fail
            rw [HHC.out]
            refine (P2.out _ T4.out).mono ?_
            rintro e w5 ⟨rfl, t5⟩
            have T5 := Lib.hid t5
            clear t5 y0 y1 y2 y3 y4
            go_wp2_with fail
            go_roundw
            case rel => exact ⟨k + 1, _, _, by omega, by omega, by go_num, by omega, by omega, HR2, T5⟩
            case measure => simp [intOf]; omega
      · have hTs := HT.out.left
        have hUs := HT.out.right
        have hT200 : T.length ≤ 200 := by omega
        have hU200 : U.length ≤ 200 := by omega
        have hcase : k = l.length ∨ (k = 200 ∧ decide ((200 : Int) < (l.length : Int)) = true ∧ 200 < l.length) := by
          by_cases h1 : k < l.length
          · exact .inr ⟨by omega, by simp; omega, by omega⟩
          · exact .inl (by omega)
        clear hlt
        have hgT := hTs.tab.good
        have HS1 := Lib.hid (fun W (h : Tw w0 W p q T U) => msteps_any h.left.tab K S)
        have HS2 := Lib.hid (fun W (h : Tw w0 W p q T U) => msteps_any h.right.tab K S)
        have HC1 := Lib.hid (fun W (h : Tw w0 W p q T U) => count_any h.left ((Below.block h.kept _ (mheap_lt KB.out)).trans KB.out) ((Below.block h.kept _ (mheap_lt SB.out)).trans SB.out))
        have HC2 := Lib.hid (fun W (h : Tw w0 W p q T U) => count_any h.right ((Below.block h.kept _ (mheap_lt KB.out)).trans KB.out) ((Below.block h.kept _ (mheap_lt SB.out)).trans SB.out))
        have HCE := Lib.hid (fun W (K2 : Kept w0 W) => (show W.cell? ⟨kb, 0, none⟩ = some (.string (bs K)) ∧ W.cell? ⟨kb + 1, 0, none⟩ = some (.int .u64 (S : Nat)) from ⟨mcell ((Below.block K2 _ (mheap_lt KB.out)).trans KB.out) 0 rfl, mcell ((Below.block K2 _ (mheap_lt SB.out)).trans SB.out) 0 rfl⟩))
        rw [Mm.steps_all hc1 HR.out K S] at HS2
        have h1 := Mm.steps_le T K S
        have h2 : (Mm.A T K S).length = 0 ∨ 1 ≤ Mm.stp 0 (Mm.hts (Mm.A T K S)) := by
          rcases Nat.eq_zero_or_pos (Mm.A T K S).length with h | h
          · exact .inl h
          · exact .inr (hgT.steps_pos K S (fun e => by rw [e] at h; simp at h))
        have h3 := Mm.A_len_le T K S
        generalize Mm.stp 0 (Mm.hts (Mm.A T K S)) = s1 at *
        generalize (Mm.A T K S).length = n1 at *
        generalize (Mm.A U K S).length = n2 at *
        obtain ⟨mm, hm1, hm2, hm3⟩ : ∃ mm : Nat, (if (1 : Int) < (n1 : Int) then (1 : Int) else (n1 : Int)) = (mm : Int) ∧ (if 1 < n1 then (1 : Int) else (n1 : Int)) = (mm : Int) ∧ mm ≤ s1 := by
          refine ⟨if 1 < n1 then 1 else n1, ?_, ?_, ?_⟩
          · split <;> split <;> omega
          · split <;> rfl
          · split <;> omega
        clear hgT HR hTs hUs h2
        rcases hcase with rfl | ⟨rfl, d2, d3⟩
        all_goals
          obtain ⟨u0, u1⟩ := HCE.out _ HT.out.kept
          go_wp2_with fail
          refine (HS1.out _ HT.out).mono ?_
          rintro e w3 ⟨rfl, g3⟩
          have T3 := Lib.hid (HT.out.more g3)
          clear u0 u1
          go_wp2_with fail
          refine (HC1.out _ T3.out).mono ?_
          rintro e w4 ⟨rfl, g4⟩
          have T4 := Lib.hid (T3.out.more g4)
          obtain ⟨u0, u1⟩ := HCE.out _ T4.out.kept
          go_wp2_with fail
          refine (HS1.out _ T4.out).mono ?_
          rintro e w5 ⟨rfl, g5⟩
          have T5 := Lib.hid (T4.out.more g5)
          clear u0 u1
          go_wp2_with fail
          refine (HC1.out _ T5.out).mono ?_
          rintro e w6 ⟨rfl, g6⟩
          have T6 := Lib.hid (T5.out.more g6)
          obtain ⟨u0, u1⟩ := HCE.out _ T6.out.kept
          go_wp2_with fail
          refine (HS2.out _ T6.out).mono ?_
          rintro e w7 ⟨rfl, g7⟩
          have T7 := Lib.hid (T6.out.more g7)
          clear u0 u1
          go_wp2_with fail
          refine (HC2.out _ T7.out).mono ?_
          rintro e w8 ⟨rfl, g8⟩
          have kk := kept_trans k00.out (T7.out.more g8).kept
          go_wp2_with fail
          go_ret
          exact ⟨rfl, kk⟩
end Go.Proofs.Ytpacdjphiamppaa
