/-
  The walk of screelaw07.MemDoes.
-/
import Derived.Test.YtpbhbgoaaephgaaMemBoth
import Derived.Test.YtpbhbgoaaephgaaMemWake
import Derived.RegionTactic
import Derived.BigRegion
import Derived.Deep.CutRange
import Derived.Deep.RegionHeld3
namespace Go.Proofs.Ytpbhbgoaaephgaa
open Go.ChangeShapes Go.WideShapes Go.ChangeAt Go.RowKit
set_option linter.unusedVariables false
set_option maxRecDepth 100000
set_option maxHeartbeats 8000000

structure KWm (a b : World) : Prop where
  k : Kept a b
theorem MemDoes_walk {w : World} (A : Option Addr) (cap : Nat) (l : List Pt) (key : ByteArray) (seq n : Int) (hA : Puts w A l) (hL : l.length ≤ maxLen ∧ PutsOk l) (hkey : key.size ≤ maxLen) (hseq : (Lit.int .u64 seq).wf = true) (hn : (Lit.int .i64 n).wf = true) :
    Calls Try.prog 10 #[.slice A l.length cap, .string key, .int .u64 seq, .int .i64 n] w fun e w' => e = .returned (.bool true) ∧ Kept w w' := by
  obtain ⟨hlen, hok⟩ := hL
  obtain ⟨hn1, hn2⟩ := bounds_i64 hn
  have hs1 := bounds_u64 hseq
  obtain ⟨s, rfl⟩ : ∃ s : Nat, seq = (s : Int) := ⟨seq.toNat, by omega⟩
  obtain ⟨K, rfl⟩ : ∃ K, key = bs K := ⟨_, (mbs_self key).symm⟩
  clear hn hseq
  unfold maxLen at hlen hkey
  have HOK := Lib.hid hok
  clear hok
  by_cases h300 : 300 < (bs K).size
  · have d1 : decide ((300 : Int) < ((bs K).size : Int)) = true := by simp; omega
    go_enter Try.func10, Try.ntmps10
    go_wp2_with fail
    refine (mawake_any _).mono ?_
    rintro e w1 ⟨rfl, g1⟩
    go_wp2_with fail
    go_ret
    exact ⟨rfl, g1⟩
  · have d1 : decide ((300 : Int) < ((bs K).size : Int)) = false := by simp; omega
    clear h300 hkey
    go_enter Try.func10, Try.ntmps10
    go_wp2_with fail
    refine (mawake_any _).mono ?_
    rintro e w1 ⟨rfl, g1⟩
    go_wp2_with fail
    refine (mnew_any w1).mono ?_
    rintro e w2 ⟨rfl, t2, z2, g2⟩
    have B0 := Lib.hid (bt_new (W := w) t2 (fun b hb => by subst hb; exact ⟨Below.size g1, by omega⟩) (kept_trans g1 g2))
    clear t2 z2 g1 g2
    unfold rtO at B0
    generalize w1.heap.size = p at *
    go_wp2_with fail
    generalize w2.alloc (.cells #[.slice none 0 0, .slice none 0 0] 48) = w3 at *
    generalize w2.heap.size = r at *
    go_loopw [11] (fun t wr => ∃ (k : Nat) (T : List Mm.Tv), k ≤ l.length ∧ k ≤ 200 ∧ t = .int .i64 k ∧ T.length ≤ k ∧ Hid (Bt w wr p r T T)) (fun t _ => l.length - (intOf t).toNat)
    case atStart => exact ⟨0, [], Nat.zero_le _, Nat.zero_le _, rfl, Nat.le_refl _, B0⟩
    case round =>
      clear B0
      obtain ⟨k, T, hk, hk2, rfl, hTk, HT⟩ := hrel
      by_cases hlt : k < l.length ∧ k < 200
      · obtain ⟨hlt1, hlt2⟩ := hlt
        have d2 : decide ((k : Int) < (l.length : Int)) = true := by simp; omega
        have d3 : decide ((k : Int) < 200) = true := by simp; omega
        obtain ⟨x, hx⟩ : ∃ x, l[k]? = some x := ⟨_, List.getElem?_eq_getElem hlt1⟩
        obtain ⟨q1, q2, q3, q4⟩ := HOK.out x (List.mem_of_getElem? hx)
        obtain ⟨b, o, rfl, hb, c0, c1, c2, c3, c4⟩ := (hA.kept HT.out.kept) k x hx
        have HCL := Lib.hid (show ∀ W, Kept w W → b < W.heap.size ∧ W.cell? ⟨b, o + k * 5, none⟩ = some (.string (bs x.e.key)) ∧ W.cell? ⟨b, o + k * 5 + 1, none⟩ = some (.int .u64 (x.e.seq : Nat)) ∧ W.cell? ⟨b, o + k * 5 + 2, none⟩ = some (.bool x.e.del) ∧ W.cell? ⟨b, o + k * 5 + 3, none⟩ = some (.string (bs x.e.val)) ∧ W.cell? ⟨b, o + k * 5 + 4, none⟩ = some (.int .i64 x.h) from fun W KW => by
          obtain ⟨b', o', e, hb, c0, c1, c2, c3, c4⟩ := (hA.kept KW) k x hx
          cases e
          exact ⟨hb, c0, c1, c2, c3, c4⟩)
        have hcl := fun W => mlarge_any x.e W q1 q2
        have HPUT1 := Lib.hid (fun W (h : Bt w W p r T T) => h.put (by omega) x.e x.h q1 q2)
        have HPUT2 := Lib.hid (fun W (h : Bt w W p r (Mm.put T x.e x.h) T) => h.rput (by omega) x.e x.h q1 q2)
        have hpl := Mm.put_len_le T x.e x.h
        generalize Mm.put T x.e x.h = T' at *
        unfold entV at hcl HPUT1 HPUT2
        clear hx
        cases hlg : (decide (300 < x.e.key.length) || decide (300 < x.e.val.length)) with
        | true =>
          rw [hlg] at hcl
          clear hlg
          go_wp2_with fail
          refine (hcl _).mono ?_
          rintro e w4 ⟨rfl, g3⟩
          have kk := kept_trans HT.out.kept g3
          go_wp2_with fail
          go_ret
          exact ⟨rfl, kk⟩
        | false =>
          rw [hlg] at hcl
          clear hlg
          go_wp2_with fail
          refine (hcl _).mono ?_
          rintro e w4 ⟨rfl, g3⟩
          have hB4 := (HT.out.more g3).more (w' := w4.drew) ⟨rfl, rfl, rfl, Nat.le_refl _, fun _ _ => rfl⟩
          have I0 : KWm w w4.drew := ⟨hB4.kept⟩
          have HB4 := Lib.hid hB4
          clear c0 c1 c2 c3 c4 hcl HT hB4 g3 hb
          go_wp2_with fail
          refine wp_region_held_drew (S := fun W => KWm w W) (by kernel_rfl) I0 (fun hHeld => ?_)
          refine wpAnyH_take (i := 0) (v := (.pointer (some ⟨p, 0, none⟩))) (List.getElem?_toArray.trans rfl) (by kernel_rfl) (by kernel_rfl) (by kernel_rfl) (fun _ _ _ h => h) (Or.inl ⟨by rfl, ?_⟩) (by assumption) ?_
          · intro W hSw
            first | rfl | (go_simp; done) | (go_simp; rfl)
          simp only [Act.put, List.setIfInBounds_toArray, List.set_cons_zero, List.set_cons_succ]
          refine wpAnyH_take (i := 1) (v := (.slice (some ⟨b, o, none⟩) l.length cap)) (List.getElem?_toArray.trans rfl) (by kernel_rfl) (by kernel_rfl) (by kernel_rfl) (fun _ _ _ h => h) (Or.inl ⟨by rfl, ?_⟩) (by assumption) ?_
          · intro W hSw
            first | rfl | (go_simp; done) | (go_simp; rfl)
          simp only [Act.put, List.setIfInBounds_toArray, List.set_cons_zero, List.set_cons_succ]
          refine wpAnyH_take (i := 2) (v := (.int .i64 (k : Nat))) (List.getElem?_toArray.trans rfl) (by kernel_rfl) (by kernel_rfl) (by kernel_rfl) (fun _ _ _ h => h) (Or.inl ⟨by rfl, ?_⟩) (by assumption) ?_
          · intro W hSw
            first | rfl | (go_simp; done) | (go_simp; rfl)
          simp only [Act.put, List.setIfInBounds_toArray, List.set_cons_zero, List.set_cons_succ]
          refine wpAnyH_take (i := 3) (v := (.pointer (some ⟨b, o + k * 5, none⟩))) (List.getElem?_toArray.trans rfl) (by kernel_rfl) (by kernel_rfl) (by kernel_rfl) (fun _ _ _ h => h) (Or.inl ⟨by rfl, ?_⟩) (by assumption) ?_
          · intro W hSw
            first | rfl | (go_simp; done) | (go_simp; rfl)
          simp only [Act.put, List.setIfInBounds_toArray, List.set_cons_zero, List.set_cons_succ]
          refine wpAnyH_take (i := 4) (v := (.pointer (some ⟨b, o + k * 5, none⟩))) (List.getElem?_toArray.trans rfl) (by kernel_rfl) (by kernel_rfl) (by kernel_rfl) (fun _ _ _ h => h) (Or.inl ⟨by rfl, ?_⟩) (by assumption) ?_
          · intro W hSw
            first | rfl | (go_simp; done) | (go_simp; rfl)
          simp only [Act.put, List.setIfInBounds_toArray, List.set_cons_zero, List.set_cons_succ]
          refine wpAnyH_take (i := 5) (v := (.agg #[.string (bs x.e.key), .int .u64 (x.e.seq : Nat), .bool x.e.del, .string (bs x.e.val)])) (List.getElem?_toArray.trans rfl) (by kernel_rfl) (by kernel_rfl) (by kernel_rfl) (fun _ _ _ h => h) (Or.inl ⟨by rfl, ?_⟩) (by assumption) ?_
          · intro W hSw
            obtain ⟨hb, c0, c1, c2, c3, c4⟩ := HCL.out W hSw.k
            first | (go_simp; done) | (go_simp; rfl)
          simp only [Act.put, List.setIfInBounds_toArray, List.set_cons_zero, List.set_cons_succ]
          refine wpAnyH_take (i := 6) (v := (.slice (some ⟨b, o, none⟩) l.length cap)) (List.getElem?_toArray.trans rfl) (by kernel_rfl) (by kernel_rfl) (by kernel_rfl) (fun _ _ _ h => h) (Or.inl ⟨by rfl, ?_⟩) (by assumption) ?_
          · intro W hSw
            first | rfl | (go_simp; done) | (go_simp; rfl)
          simp only [Act.put, List.setIfInBounds_toArray, List.set_cons_zero, List.set_cons_succ]
          refine wpAnyH_take (i := 7) (v := (.int .i64 (k : Nat))) (List.getElem?_toArray.trans rfl) (by kernel_rfl) (by kernel_rfl) (by kernel_rfl) (fun _ _ _ h => h) (Or.inl ⟨by rfl, ?_⟩) (by assumption) ?_
          · intro W hSw
            first | rfl | (go_simp; done) | (go_simp; rfl)
          simp only [Act.put, List.setIfInBounds_toArray, List.set_cons_zero, List.set_cons_succ]
          refine wpAnyH_take (i := 8) (v := (.pointer (some ⟨b, o + k * 5, none⟩))) (List.getElem?_toArray.trans rfl) (by kernel_rfl) (by kernel_rfl) (by kernel_rfl) (fun _ _ _ h => h) (Or.inl ⟨by rfl, ?_⟩) (by assumption) ?_
          · intro W hSw
            first | rfl | (go_simp; done) | (go_simp; rfl)
          simp only [Act.put, List.setIfInBounds_toArray, List.set_cons_zero, List.set_cons_succ]
          refine wpAnyH_take (i := 9) (v := (.pointer (some ⟨b, o + k * 5 + 4, none⟩))) (List.getElem?_toArray.trans rfl) (by kernel_rfl) (by kernel_rfl) (by kernel_rfl) (fun _ _ _ h => h) (Or.inl ⟨by rfl, ?_⟩) (by assumption) ?_
          · intro W hSw
            first | rfl | (go_simp; done) | (go_simp; rfl)
          simp only [Act.put, List.setIfInBounds_toArray, List.set_cons_zero, List.set_cons_succ]
          refine wpAnyH_take (i := 10) (v := (.int .i64 x.h)) (List.getElem?_toArray.trans rfl) (by kernel_rfl) (by kernel_rfl) (by kernel_rfl) (fun _ _ _ h => h) (Or.inl ⟨by rfl, ?_⟩) (by assumption) ?_
          · intro W hSw
            obtain ⟨hb, c0, c1, c2, c3, c4⟩ := HCL.out W hSw.k
            first | (go_simp; done) | (go_simp; rfl)
          simp only [Act.put, List.setIfInBounds_toArray, List.set_cons_zero, List.set_cons_succ]
          refine wpAnyH_take (i := 12) (v := (.pointer (some ⟨r, 0, none⟩))) (List.getElem?_toArray.trans rfl) (by kernel_rfl) (by kernel_rfl) (by kernel_rfl) (fun _ _ _ h => h) (Or.inl ⟨by rfl, ?_⟩) (by assumption) ?_
          · intro W hSw
            first | rfl | (go_simp; done) | (go_simp; rfl)
          simp only [Act.put, List.setIfInBounds_toArray, List.set_cons_zero, List.set_cons_succ]
          refine wpAnyH_take (i := 13) (v := (.slice (some ⟨b, o, none⟩) l.length cap)) (List.getElem?_toArray.trans rfl) (by kernel_rfl) (by kernel_rfl) (by kernel_rfl) (fun _ _ _ h => h) (Or.inl ⟨by rfl, ?_⟩) (by assumption) ?_
          · intro W hSw
            first | rfl | (go_simp; done) | (go_simp; rfl)
          simp only [Act.put, List.setIfInBounds_toArray, List.set_cons_zero, List.set_cons_succ]
          refine wpAnyH_take (i := 14) (v := (.int .i64 (k : Nat))) (List.getElem?_toArray.trans rfl) (by kernel_rfl) (by kernel_rfl) (by kernel_rfl) (fun _ _ _ h => h) (Or.inl ⟨by rfl, ?_⟩) (by assumption) ?_
          · intro W hSw
            first | rfl | (go_simp; done) | (go_simp; rfl)
          simp only [Act.put, List.setIfInBounds_toArray, List.set_cons_zero, List.set_cons_succ]
          refine wpAnyH_take (i := 15) (v := (.pointer (some ⟨b, o + k * 5, none⟩))) (List.getElem?_toArray.trans rfl) (by kernel_rfl) (by kernel_rfl) (by kernel_rfl) (fun _ _ _ h => h) (Or.inl ⟨by rfl, ?_⟩) (by assumption) ?_
          · intro W hSw
            first | rfl | (go_simp; done) | (go_simp; rfl)
          simp only [Act.put, List.setIfInBounds_toArray, List.set_cons_zero, List.set_cons_succ]
          refine wpAnyH_take (i := 16) (v := (.pointer (some ⟨b, o + k * 5, none⟩))) (List.getElem?_toArray.trans rfl) (by kernel_rfl) (by kernel_rfl) (by kernel_rfl) (fun _ _ _ h => h) (Or.inl ⟨by rfl, ?_⟩) (by assumption) ?_
          · intro W hSw
            first | rfl | (go_simp; done) | (go_simp; rfl)
          simp only [Act.put, List.setIfInBounds_toArray, List.set_cons_zero, List.set_cons_succ]
          refine wpAnyH_take (i := 17) (v := (.agg #[.string (bs x.e.key), .int .u64 (x.e.seq : Nat), .bool x.e.del, .string (bs x.e.val)])) (List.getElem?_toArray.trans rfl) (by kernel_rfl) (by kernel_rfl) (by kernel_rfl) (fun _ _ _ h => h) (Or.inl ⟨by rfl, ?_⟩) (by assumption) ?_
          · intro W hSw
            obtain ⟨hb, c0, c1, c2, c3, c4⟩ := HCL.out W hSw.k
            first | (go_simp; done) | (go_simp; rfl)
          simp only [Act.put, List.setIfInBounds_toArray, List.set_cons_zero, List.set_cons_succ]
          refine wpAnyH_take (i := 18) (v := (.slice (some ⟨b, o, none⟩) l.length cap)) (List.getElem?_toArray.trans rfl) (by kernel_rfl) (by kernel_rfl) (by kernel_rfl) (fun _ _ _ h => h) (Or.inl ⟨by rfl, ?_⟩) (by assumption) ?_
          · intro W hSw
            first | rfl | (go_simp; done) | (go_simp; rfl)
          simp only [Act.put, List.setIfInBounds_toArray, List.set_cons_zero, List.set_cons_succ]
          refine wpAnyH_take (i := 19) (v := (.int .i64 (k : Nat))) (List.getElem?_toArray.trans rfl) (by kernel_rfl) (by kernel_rfl) (by kernel_rfl) (fun _ _ _ h => h) (Or.inl ⟨by rfl, ?_⟩) (by assumption) ?_
          · intro W hSw
            first | rfl | (go_simp; done) | (go_simp; rfl)
          simp only [Act.put, List.setIfInBounds_toArray, List.set_cons_zero, List.set_cons_succ]
          refine wpAnyH_take (i := 20) (v := (.pointer (some ⟨b, o + k * 5, none⟩))) (List.getElem?_toArray.trans rfl) (by kernel_rfl) (by kernel_rfl) (by kernel_rfl) (fun _ _ _ h => h) (Or.inl ⟨by rfl, ?_⟩) (by assumption) ?_
          · intro W hSw
            first | rfl | (go_simp; done) | (go_simp; rfl)
          simp only [Act.put, List.setIfInBounds_toArray, List.set_cons_zero, List.set_cons_succ]
          refine wpAnyH_take (i := 21) (v := (.pointer (some ⟨b, o + k * 5 + 4, none⟩))) (List.getElem?_toArray.trans rfl) (by kernel_rfl) (by kernel_rfl) (by kernel_rfl) (fun _ _ _ h => h) (Or.inl ⟨by rfl, ?_⟩) (by assumption) ?_
          · intro W hSw
            first | rfl | (go_simp; done) | (go_simp; rfl)
          simp only [Act.put, List.setIfInBounds_toArray, List.set_cons_zero, List.set_cons_succ]
          refine wpAnyH_take (i := 22) (v := (.int .i64 x.h)) (List.getElem?_toArray.trans rfl) (by kernel_rfl) (by kernel_rfl) (by kernel_rfl) (fun _ _ _ h => h) (Or.inl ⟨by rfl, ?_⟩) (by assumption) ?_
          · intro W hSw
            obtain ⟨hb, c0, c1, c2, c3, c4⟩ := HCL.out W hSw.k
            first | (go_simp; done) | (go_simp; rfl)
          simp only [Act.put, List.setIfInBounds_toArray, List.set_cons_zero, List.set_cons_succ]
          refine wpAnyH_ready (rs := [11]) (by kernel_rfl) (by simp) ?_
          refine AllReadyH.cons (List.getElem?_toArray.trans rfl) (fun K hK => ?_) AllReadyH.nil
          go_simp
          refine (HPUT1.out _ HB4.out).mono ?_
          rintro e w5 ⟨rfl, t5⟩
          go_wp2_with fail
          refine hK.out _ _ ⟨t5.kept⟩ (fun hHeld => ?_)
          clear hK K
          refine wpAnyH_ready (rs := [23]) (by kernel_rfl) (by simp) ?_
          refine AllReadyH.cons (List.getElem?_toArray.trans rfl) (fun K hK => ?_) AllReadyH.nil
          go_simp
          refine (HPUT2.out _ t5).mono ?_
          rintro e w6 ⟨rfl, t6⟩
          go_wp2_with fail
          refine hK.out _ _ ⟨t6.kept⟩ (fun hHeld => ?_)
          clear hK K
          refine wpAnyH_take (i := 24) (v := (.bool false)) (List.getElem?_toArray.trans rfl) (by kernel_rfl) (by kernel_rfl) (by kernel_rfl) (fun _ _ _ h => h) (Or.inl ⟨by rfl, ?_⟩) (by assumption) ?_
          · intro W hSw
            first | rfl | (go_simp; done) | (go_simp; rfl)
          simp only [Act.put, List.setIfInBounds_toArray, List.set_cons_zero, List.set_cons_succ]
          refine wpAnyH_done (by kernel_rfl) ?_ _
          have T6 := Lib.hid t6
          clear t6 t5 HB4 HPUT1 HPUT2 HCL
          have HG1 : Hid (∀ W, Bt w W p r T' T' → Calls Try.prog 29 #[.pointer (some ⟨p, 0, none⟩), .string (bs K), .int .u64 (s : Nat)] W fun e w' => e = .returned (getV T' K s) ∧ Kept W w') := Lib.hid (fun W h => by obtain ⟨F, hF⟩ := h.tab; exact mget_any hF K s)
          have HG2 : Hid (∀ W, Bt w W p r T' T' → Calls Try.prog 30 #[.pointer (some ⟨r, 0, none⟩), .string (bs K), .int .u64 (s : Nat)] W fun e w' => e = .returned (getV T' K s) ∧ Kept W w') := Lib.hid (fun W h => by obtain ⟨G, hG⟩ := h.rt; exact rget_any hG K s)
          have HN1 : Hid (∀ W, Bt w W p r T' T' → Calls Try.prog 31 #[.pointer (some ⟨p, 0, none⟩)] W fun e w' => e = .returned (.int .i64 (T'.length : Nat)) ∧ Kept W w') := Lib.hid (fun W h => by obtain ⟨F, hF⟩ := h.tab; exact (mlen_any hF).mono fun e w' ⟨h1, h2⟩ => ⟨h1, by rw [h2]; exact Kept.refl _⟩)
          have HZ1 : Hid (∀ W, Bt w W p r T' T' → Calls Try.prog 32 #[.pointer (some ⟨p, 0, none⟩)] W fun e w' => e = .returned (.int .i64 (Mm.size T' : Nat)) ∧ Kept W w') := Lib.hid (fun W h => by obtain ⟨F, hF⟩ := h.tab; exact (msize_any hF).mono fun e w' ⟨h1, h2⟩ => ⟨h1, by rw [h2]; exact Kept.refl _⟩)
          have HZ2 : Hid (∀ W, Bt w W p r T' T' → Calls Try.prog 33 #[.pointer (some ⟨r, 0, none⟩)] W fun e w' => e = .returned (.int .i64 (Mm.size T' : Nat)) ∧ Kept W w') := Lib.hid (fun W h => by obtain ⟨G, hG⟩ := h.rt; exact rsize_of hG)
          have HS1 : Hid (∀ W, Bt w W p r T' T' → Calls Try.prog 34 #[.pointer (some ⟨p, 0, none⟩), .string (bs K), .int .u64 (s : Nat)] W fun e w' => e = .returned (.int .i64 (Mm.stp 0 (Mm.hts (Mm.A T' K s)) : Nat)) ∧ Kept W w') := Lib.hid (fun W h => by obtain ⟨F, hF⟩ := h.tab; exact msteps_any hF K s)
          have HS2 : Hid (∀ W, Bt w W p r T' T' → Calls Try.prog 35 #[.pointer (some ⟨r, 0, none⟩), .string (bs K), .int .u64 (s : Nat)] W fun e w' => e = .returned (.int .i64 (Mm.stp 0 (Mm.hts (Mm.A T' K s)) : Nat)) ∧ Kept W w') := Lib.hid (fun W h => by obtain ⟨G, hG⟩ := h.rt; exact rsteps_any hG K s)
          generalize Mm.size T' = SZ at *
          generalize Mm.stp 0 (Mm.hts (Mm.A T' K s)) = ST at *
          unfold getV at HG1 HG2
          generalize (Mm.get T' K s).getD Mm.zent = z at *
          generalize (Mm.get T' K s).isSome = bI at *
          unfold entV at HG1 HG2
          go_wp2_with fail
          refine (HG1.out _ T6.out).mono ?_
          rintro e w7 ⟨rfl, g7⟩
          have k8 : Kept w7 (w7.alloc (.cells #[.string (bs z.key), .int .u64 (z.seq : Nat), .bool z.del, .string (bs z.val)] 51)) := (Kept.refl _).alloc _
          have hz8 := malloc_new w7 (.cells #[.string (bs z.key), .int .u64 (z.seq : Nat), .bool z.del, .string (bs z.val)] 51)
          go_upto_region 15 with fail
          generalize w7.alloc (.cells #[.string (bs z.key), .int .u64 (z.seq : Nat), .bool z.del, .string (bs z.val)] 51) = w8 at *
          have HX8 := Lib.hid hz8; have T8 := Lib.hid (T6.out.more (kept_trans g7 k8))
          clear hz8 k8 g7 T6
          generalize w7.heap.size = xb at *
          go_wp2_with fail
          refine (HG2.out _ T8.out).mono ?_
          rintro e w9 ⟨rfl, g9⟩
          have k10 : Kept w9 (w9.alloc (.cells #[.string (bs z.key), .int .u64 (z.seq : Nat), .bool z.del, .string (bs z.val)] 51)) := (Kept.refl _).alloc _
          have hz10 := malloc_new w9 (.cells #[.string (bs z.key), .int .u64 (z.seq : Nat), .bool z.del, .string (bs z.val)] 51)
          go_upto_region 16 with fail
          generalize w9.alloc (.cells #[.string (bs z.key), .int .u64 (z.seq : Nat), .bool z.del, .string (bs z.val)] 51) = w10 at *
          have HY10 := Lib.hid hz10
          have HX10 := Lib.hid ((Below.block (kept_trans g9 k10) _ (mheap_lt HX8.out)).trans HX8.out)
          have T10 := Lib.hid (T8.out.more (kept_trans g9 k10))
          clear hz10 k10 g9 T8 HX8 HG1 HG2
          generalize w9.heap.size = yb at *
          have HXC := Lib.hid (show ∀ W, Kept w10 W → xb < W.heap.size ∧ W.cell? ⟨xb, 0, none⟩ = some (.string (bs z.key)) ∧ W.cell? ⟨xb, 1, none⟩ = some (.int .u64 (z.seq : Nat)) ∧ W.cell? ⟨xb, 2, none⟩ = some (.bool z.del) ∧ W.cell? ⟨xb, 3, none⟩ = some (.string (bs z.val)) from fun W KW => by
            have h := (Below.block KW _ (mheap_lt HX10.out)).trans HX10.out
            exact ⟨mheap_lt h, mcell h 0 rfl, mcell h 1 rfl, mcell h 2 rfl, mcell h 3 rfl⟩)
          have HYC := Lib.hid (show ∀ W, Kept w10 W → yb < W.heap.size ∧ W.cell? ⟨yb, 0, none⟩ = some (.string (bs z.key)) ∧ W.cell? ⟨yb, 1, none⟩ = some (.int .u64 (z.seq : Nat)) ∧ W.cell? ⟨yb, 2, none⟩ = some (.bool z.del) ∧ W.cell? ⟨yb, 3, none⟩ = some (.string (bs z.val)) from fun W KW => by
            have h := (Below.block KW _ (mheap_lt HY10.out)).trans HY10.out
            exact ⟨mheap_lt h, mcell h 0 rfl, mcell h 1 rfl, mcell h 2 rfl, mcell h 3 rfl⟩)
          obtain ⟨G, AL, cL, AH, cH, hrt⟩ := T10.out.rt
          have HRC := Lib.hid (show ∀ W, Kept w10 W → r < W.heap.size ∧ W.cell? ⟨r, 0, none⟩ = some (.slice AL T'.length cL) from fun W KW => ⟨mheap_lt (hrt.kept KW).blk, mcell (hrt.kept KW).blk 0 rfl⟩)
          have I0 : KWm w10 w10.drew := ⟨⟨rfl, rfl, rfl, Nat.le_refl _, fun _ _ => rfl⟩⟩
          clear hrt HX10 HY10
          refine wp_region_held_drew (S := fun W => KWm w10 W) (by kernel_rfl) I0 (fun hHeld => ?_)
          refine wpAnyH_take (i := 0) (v := (.agg #[.string (bs z.key), .int .u64 (z.seq : Nat), .bool z.del, .string (bs z.val)])) (List.getElem?_toArray.trans rfl) (by kernel_rfl) (by kernel_rfl) (by kernel_rfl) (fun _ _ _ h => h) (Or.inl ⟨by rfl, ?_⟩) (by assumption) ?_
          · intro W hSw
            obtain ⟨hb, c0, c1, c2, c3⟩ := HXC.out W hSw.k
            first | (go_simp; done) | (go_simp; rfl)
          simp only [Act.put, List.setIfInBounds_toArray, List.set_cons_zero, List.set_cons_succ]
          refine wpAnyH_take (i := 1) (v := (.agg #[.string (bs z.key), .int .u64 (z.seq : Nat), .bool z.del, .string (bs z.val)])) (List.getElem?_toArray.trans rfl) (by kernel_rfl) (by kernel_rfl) (by kernel_rfl) (fun _ _ _ h => h) (Or.inl ⟨by rfl, ?_⟩) (by assumption) ?_
          · intro W hSw
            obtain ⟨hb, c0, c1, c2, c3⟩ := HYC.out W hSw.k
            first | (go_simp; done) | (go_simp; rfl)
          simp only [Act.put, List.setIfInBounds_toArray, List.set_cons_zero, List.set_cons_succ]
          refine wpAnyH_take (i := 2) (v := (.bool false)) (List.getElem?_toArray.trans rfl) (by kernel_rfl) (by kernel_rfl) (by kernel_rfl) (fun _ _ _ h => h) (Or.inl ⟨by rfl, ?_⟩) (by assumption) ?_
          · intro W hSw
            first | rfl | (go_simp; done) | (go_simp; rfl)
          simp only [Act.put, List.setIfInBounds_toArray, List.set_cons_zero, List.set_cons_succ]
          refine wpAnyH_take (i := 3) (v := (.bool false)) (List.getElem?_toArray.trans rfl) (by kernel_rfl) (by kernel_rfl) (by kernel_rfl) (fun _ _ _ h => h) (Or.inl ⟨by rfl, ?_⟩) (by assumption) ?_
          · intro W hSw
            first | rfl | (go_simp; done) | (go_simp; rfl)
          simp only [Act.put, List.setIfInBounds_toArray, List.set_cons_zero, List.set_cons_succ]
          refine wpAnyH_take (i := 4) (v := (.bool bI)) (List.getElem?_toArray.trans rfl) (by kernel_rfl) (by kernel_rfl) (by kernel_rfl) (fun _ _ _ h => h) (Or.inl ⟨by rfl, ?_⟩) (by assumption) ?_
          · intro W hSw
            first | rfl | (go_simp; done) | (go_simp; rfl)
          simp only [Act.put, List.setIfInBounds_toArray, List.set_cons_zero, List.set_cons_succ]
          refine wpAnyH_take (i := 5) (v := (.bool bI)) (List.getElem?_toArray.trans rfl) (by kernel_rfl) (by kernel_rfl) (by kernel_rfl) (fun _ _ _ h => h) (Or.inl ⟨by rfl, ?_⟩) (by assumption) ?_
          · intro W hSw
            first | rfl | (go_simp; done) | (go_simp; rfl)
          simp only [Act.put, List.setIfInBounds_toArray, List.set_cons_zero, List.set_cons_succ]
          refine wpAnyH_take (i := 6) (v := (.bool false)) (List.getElem?_toArray.trans rfl) (by kernel_rfl) (by kernel_rfl) (by kernel_rfl) (fun _ _ _ h => h) (Or.inl ⟨by rfl, ?_⟩) (by assumption) ?_
          · intro W hSw
            first | rfl | (go_simp; done) | (go_simp; rfl)
          simp only [Act.put, List.setIfInBounds_toArray, List.set_cons_zero, List.set_cons_succ]
          refine wpAnyH_take (i := 7) (v := (.bool false)) (List.getElem?_toArray.trans rfl) (by kernel_rfl) (by kernel_rfl) (by kernel_rfl) (fun _ _ _ h => h) (Or.inl ⟨by rfl, ?_⟩) (by assumption) ?_
          · intro W hSw
            first | rfl | (go_simp; done) | (go_simp; rfl)
          simp only [Act.put, List.setIfInBounds_toArray, List.set_cons_zero, List.set_cons_succ]
          refine wpAnyH_take (i := 8) (v := (.bool false)) (List.getElem?_toArray.trans rfl) (by kernel_rfl) (by kernel_rfl) (by kernel_rfl) (fun _ _ _ h => h) (Or.inl ⟨by rfl, ?_⟩) (by assumption) ?_
          · intro W hSw
            first | rfl | (go_simp; done) | (go_simp; rfl)
          simp only [Act.put, List.setIfInBounds_toArray, List.set_cons_zero, List.set_cons_succ]
          refine wpAnyH_take (i := 9) (v := (.pointer (some ⟨p, 0, none⟩))) (List.getElem?_toArray.trans rfl) (by kernel_rfl) (by kernel_rfl) (by kernel_rfl) (fun _ _ _ h => h) (Or.inl ⟨by rfl, ?_⟩) (by assumption) ?_
          · intro W hSw
            first | rfl | (go_simp; done) | (go_simp; rfl)
          simp only [Act.put, List.setIfInBounds_toArray, List.set_cons_zero, List.set_cons_succ]
          refine wpAnyH_take (i := 11) (v := (.pointer (some ⟨r, 0, none⟩))) (List.getElem?_toArray.trans rfl) (by kernel_rfl) (by kernel_rfl) (by kernel_rfl) (fun _ _ _ h => h) (Or.inl ⟨by rfl, ?_⟩) (by assumption) ?_
          · intro W hSw
            first | rfl | (go_simp; done) | (go_simp; rfl)
          simp only [Act.put, List.setIfInBounds_toArray, List.set_cons_zero, List.set_cons_succ]
          refine wpAnyH_take (i := 12) (v := (.pointer (some ⟨r, 0, none⟩))) (List.getElem?_toArray.trans rfl) (by kernel_rfl) (by kernel_rfl) (by kernel_rfl) (fun _ _ _ h => h) (Or.inl ⟨by rfl, ?_⟩) (by assumption) ?_
          · intro W hSw
            first | rfl | (go_simp; done) | (go_simp; rfl)
          simp only [Act.put, List.setIfInBounds_toArray, List.set_cons_zero, List.set_cons_succ]
          refine wpAnyH_take (i := 13) (v := (.pointer (some ⟨r, 0, none⟩))) (List.getElem?_toArray.trans rfl) (by kernel_rfl) (by kernel_rfl) (by kernel_rfl) (fun _ _ _ h => h) (Or.inl ⟨by rfl, ?_⟩) (by assumption) ?_
          · intro W hSw
            first | rfl | (go_simp; done) | (go_simp; rfl)
          simp only [Act.put, List.setIfInBounds_toArray, List.set_cons_zero, List.set_cons_succ]
          refine wpAnyH_take (i := 14) (v := (.slice AL T'.length cL)) (List.getElem?_toArray.trans rfl) (by kernel_rfl) (by kernel_rfl) (by kernel_rfl) (fun _ _ _ h => h) (Or.inl ⟨by rfl, ?_⟩) (by assumption) ?_
          · intro W hSw
            obtain ⟨hb, c0⟩ := HRC.out W hSw.k
            first | (go_simp; done) | (go_simp; rfl)
          simp only [Act.put, List.setIfInBounds_toArray, List.set_cons_zero, List.set_cons_succ]
          refine wpAnyH_take (i := 15) (v := (.int .i64 (T'.length : Nat))) (List.getElem?_toArray.trans rfl) (by kernel_rfl) (by kernel_rfl) (by kernel_rfl) (fun _ _ _ h => h) (Or.inl ⟨by rfl, ?_⟩) (by assumption) ?_
          · intro W hSw
            first | rfl | (go_simp; done) | (go_simp; rfl)
          simp only [Act.put, List.setIfInBounds_toArray, List.set_cons_zero, List.set_cons_succ]
          refine wpAnyH_ready (rs := [10]) (by kernel_rfl) (by simp) ?_
          refine AllReadyH.cons (List.getElem?_toArray.trans rfl) (fun K hK => ?_) AllReadyH.nil
          go_simp
          refine (HN1.out _ (T10.out.more hHeld.k)).mono ?_
          rintro e w11 ⟨rfl, g⟩
          go_wp2_with fail
          refine hK.out _ _ ⟨kept_trans hHeld.k g⟩ (fun hHeld => ?_)
          clear hK K
          clear g
          refine wpAnyH_take (i := 16) (v := (.bool false)) (List.getElem?_toArray.trans rfl) (by kernel_rfl) (by kernel_rfl) (by kernel_rfl) (fun _ _ _ h => h) (Or.inl ⟨by rfl, ?_⟩) (by assumption) ?_
          · intro W hSw
            first | rfl | (go_simp; done) | (go_simp; rfl)
          simp only [Act.put, List.setIfInBounds_toArray, List.set_cons_zero, List.set_cons_succ]
          refine wpAnyH_take (i := 17) (v := (.bool false)) (List.getElem?_toArray.trans rfl) (by kernel_rfl) (by kernel_rfl) (by kernel_rfl) (fun _ _ _ h => h) (Or.inl ⟨by rfl, ?_⟩) (by assumption) ?_
          · intro W hSw
            first | rfl | (go_simp; done) | (go_simp; rfl)
          simp only [Act.put, List.setIfInBounds_toArray, List.set_cons_zero, List.set_cons_succ]
          refine wpAnyH_take (i := 18) (v := (.bool false)) (List.getElem?_toArray.trans rfl) (by kernel_rfl) (by kernel_rfl) (by kernel_rfl) (fun _ _ _ h => h) (Or.inl ⟨by rfl, ?_⟩) (by assumption) ?_
          · intro W hSw
            first | rfl | (go_simp; done) | (go_simp; rfl)
          simp only [Act.put, List.setIfInBounds_toArray, List.set_cons_zero, List.set_cons_succ]
          refine wpAnyH_take (i := 19) (v := (.pointer (some ⟨p, 0, none⟩))) (List.getElem?_toArray.trans rfl) (by kernel_rfl) (by kernel_rfl) (by kernel_rfl) (fun _ _ _ h => h) (Or.inl ⟨by rfl, ?_⟩) (by assumption) ?_
          · intro W hSw
            first | rfl | (go_simp; done) | (go_simp; rfl)
          simp only [Act.put, List.setIfInBounds_toArray, List.set_cons_zero, List.set_cons_succ]
          refine wpAnyH_take (i := 21) (v := (.pointer (some ⟨r, 0, none⟩))) (List.getElem?_toArray.trans rfl) (by kernel_rfl) (by kernel_rfl) (by kernel_rfl) (fun _ _ _ h => h) (Or.inl ⟨by rfl, ?_⟩) (by assumption) ?_
          · intro W hSw
            first | rfl | (go_simp; done) | (go_simp; rfl)
          simp only [Act.put, List.setIfInBounds_toArray, List.set_cons_zero, List.set_cons_succ]
          refine wpAnyH_ready (rs := [20]) (by kernel_rfl) (by simp) ?_
          refine AllReadyH.cons (List.getElem?_toArray.trans rfl) (fun K hK => ?_) AllReadyH.nil
          go_simp
          refine (HZ1.out _ (T10.out.more hHeld.k)).mono ?_
          rintro e w12 ⟨rfl, g⟩
          go_wp2_with fail
          refine hK.out _ _ ⟨kept_trans hHeld.k g⟩ (fun hHeld => ?_)
          clear hK K
          clear g
          refine wpAnyH_ready (rs := [22]) (by kernel_rfl) (by simp) ?_
          refine AllReadyH.cons (List.getElem?_toArray.trans rfl) (fun K hK => ?_) AllReadyH.nil
          go_simp
          refine (HZ2.out _ (T10.out.more hHeld.k)).mono ?_
          rintro e w13 ⟨rfl, g⟩
          go_wp2_with fail
          refine hK.out _ _ ⟨kept_trans hHeld.k g⟩ (fun hHeld => ?_)
          clear hK K
          clear g
          refine wpAnyH_take (i := 23) (v := (.bool false)) (List.getElem?_toArray.trans rfl) (by kernel_rfl) (by kernel_rfl) (by kernel_rfl) (fun _ _ _ h => h) (Or.inl ⟨by rfl, ?_⟩) (by assumption) ?_
          · intro W hSw
            first | rfl | (go_simp; done) | (go_simp; rfl)
          simp only [Act.put, List.setIfInBounds_toArray, List.set_cons_zero, List.set_cons_succ]
          refine wpAnyH_take (i := 24) (v := (.bool false)) (List.getElem?_toArray.trans rfl) (by kernel_rfl) (by kernel_rfl) (by kernel_rfl) (fun _ _ _ h => h) (Or.inl ⟨by rfl, ?_⟩) (by assumption) ?_
          · intro W hSw
            first | rfl | (go_simp; done) | (go_simp; rfl)
          simp only [Act.put, List.setIfInBounds_toArray, List.set_cons_zero, List.set_cons_succ]
          refine wpAnyH_take (i := 25) (v := (.bool false)) (List.getElem?_toArray.trans rfl) (by kernel_rfl) (by kernel_rfl) (by kernel_rfl) (fun _ _ _ h => h) (Or.inl ⟨by rfl, ?_⟩) (by assumption) ?_
          · intro W hSw
            first | rfl | (go_simp; done) | (go_simp; rfl)
          simp only [Act.put, List.setIfInBounds_toArray, List.set_cons_zero, List.set_cons_succ]
          refine wpAnyH_take (i := 26) (v := (.pointer (some ⟨p, 0, none⟩))) (List.getElem?_toArray.trans rfl) (by kernel_rfl) (by kernel_rfl) (by kernel_rfl) (fun _ _ _ h => h) (Or.inl ⟨by rfl, ?_⟩) (by assumption) ?_
          · intro W hSw
            first | rfl | (go_simp; done) | (go_simp; rfl)
          simp only [Act.put, List.setIfInBounds_toArray, List.set_cons_zero, List.set_cons_succ]
          refine wpAnyH_take (i := 27) (v := (.string (bs K))) (List.getElem?_toArray.trans rfl) (by kernel_rfl) (by kernel_rfl) (by kernel_rfl) (fun _ _ _ h => h) (Or.inl ⟨by rfl, ?_⟩) (by assumption) ?_
          · intro W hSw
            first | rfl | (go_simp; done) | (go_simp; rfl)
          simp only [Act.put, List.setIfInBounds_toArray, List.set_cons_zero, List.set_cons_succ]
          refine wpAnyH_take (i := 28) (v := (.int .u64 (s : Nat))) (List.getElem?_toArray.trans rfl) (by kernel_rfl) (by kernel_rfl) (by kernel_rfl) (fun _ _ _ h => h) (Or.inl ⟨by rfl, ?_⟩) (by assumption) ?_
          · intro W hSw
            first | rfl | (go_simp; done) | (go_simp; rfl)
          simp only [Act.put, List.setIfInBounds_toArray, List.set_cons_zero, List.set_cons_succ]
          refine wpAnyH_take (i := 30) (v := (.pointer (some ⟨r, 0, none⟩))) (List.getElem?_toArray.trans rfl) (by kernel_rfl) (by kernel_rfl) (by kernel_rfl) (fun _ _ _ h => h) (Or.inl ⟨by rfl, ?_⟩) (by assumption) ?_
          · intro W hSw
            first | rfl | (go_simp; done) | (go_simp; rfl)
          simp only [Act.put, List.setIfInBounds_toArray, List.set_cons_zero, List.set_cons_succ]
          refine wpAnyH_take (i := 31) (v := (.string (bs K))) (List.getElem?_toArray.trans rfl) (by kernel_rfl) (by kernel_rfl) (by kernel_rfl) (fun _ _ _ h => h) (Or.inl ⟨by rfl, ?_⟩) (by assumption) ?_
          · intro W hSw
            first | rfl | (go_simp; done) | (go_simp; rfl)
          simp only [Act.put, List.setIfInBounds_toArray, List.set_cons_zero, List.set_cons_succ]
          refine wpAnyH_take (i := 32) (v := (.int .u64 (s : Nat))) (List.getElem?_toArray.trans rfl) (by kernel_rfl) (by kernel_rfl) (by kernel_rfl) (fun _ _ _ h => h) (Or.inl ⟨by rfl, ?_⟩) (by assumption) ?_
          · intro W hSw
            first | rfl | (go_simp; done) | (go_simp; rfl)
          simp only [Act.put, List.setIfInBounds_toArray, List.set_cons_zero, List.set_cons_succ]
          refine wpAnyH_ready (rs := [29]) (by kernel_rfl) (by simp) ?_
          refine AllReadyH.cons (List.getElem?_toArray.trans rfl) (fun K hK => ?_) AllReadyH.nil
          go_simp
          refine (HS1.out _ (T10.out.more hHeld.k)).mono ?_
          rintro e w14 ⟨rfl, g⟩
          go_wp2_with fail
          refine hK.out _ _ ⟨kept_trans hHeld.k g⟩ (fun hHeld => ?_)
          clear hK K
          clear g
          refine wpAnyH_ready (rs := [33]) (by kernel_rfl) (by simp) ?_
          refine AllReadyH.cons (List.getElem?_toArray.trans rfl) (fun K hK => ?_) AllReadyH.nil
          go_simp
          refine (HS2.out _ (T10.out.more hHeld.k)).mono ?_
          rintro e w15 ⟨rfl, g⟩
          go_wp2_with fail
          refine hK.out _ _ ⟨kept_trans hHeld.k g⟩ (fun hHeld => ?_)
          clear hK K
          clear g
          refine wpAnyH_take (i := 34) (v := (.bool false)) (List.getElem?_toArray.trans rfl) (by kernel_rfl) (by kernel_rfl) (by kernel_rfl) (fun _ _ _ h => h) (Or.inl ⟨by rfl, ?_⟩) (by assumption) ?_
          · intro W hSw
            first | rfl | (go_simp; done) | (go_simp; rfl)
          simp only [Act.put, List.setIfInBounds_toArray, List.set_cons_zero, List.set_cons_succ]
          refine wpAnyH_take (i := 35) (v := (.bool false)) (List.getElem?_toArray.trans rfl) (by kernel_rfl) (by kernel_rfl) (by kernel_rfl) (fun _ _ _ h => h) (Or.inl ⟨by rfl, ?_⟩) (by assumption) ?_
          · intro W hSw
            first | rfl | (go_simp; done) | (go_simp; rfl)
          simp only [Act.put, List.setIfInBounds_toArray, List.set_cons_zero, List.set_cons_succ]
          refine wpAnyH_done (by kernel_rfl) ?_ _
          have T15 := Lib.hid (T10.out.more hHeld.k)
          clear HN1 HZ1 HZ2 HS1 HS2 HXC HYC HRC T10
          go_wp2_with fail
          go_roundw
          case rel => exact ⟨k + 1, T', by omega, by omega, by go_num, by omega, T15⟩
          case measure => simp [intOf]; omega
      · have hT200 : T.length ≤ 200 := by omega
        have HEL := Lib.hid (Mm.ents_len T); have HHL := Lib.hid (Mm.hts_len T)
        have hcase : k = l.length ∨ (k = 200 ∧ decide ((200 : Int) < (l.length : Int)) = true ∧ 200 < l.length) := by
          by_cases h1 : k < l.length
          · exact .inr ⟨by omega, by simp; omega, by omega⟩
          · exact .inl (by omega)
        clear hlt
        have HTW : Hid (∀ W, Bt w W p r T T → Calls Try.prog 36 #[.pointer (some ⟨p, 0, none⟩)] W fun e w' => ∃ B c, e = .returned (.slice B T.length c) ∧ Hls w' B (Mm.hts T) ∧ Kept W w') := Lib.hid (fun W h => by obtain ⟨F, hF⟩ := h.tab; exact mtowers_any hF)
        have HAL : Hid (∀ W, Bt w W p r T T → Calls Try.prog 38 #[.pointer (some ⟨p, 0, none⟩)] W fun e w' => ∃ B c, e = .returned (.slice B T.length c) ∧ Elr W.heap.size w' B c (Mm.ents T) ∧ Kept W w') := Lib.hid (fun W h => by obtain ⟨F, hF⟩ := h.tab; exact mall_any hF)
        have HF1 : Hid (∀ W, Bt w W p r T T → Calls Try.prog 39 #[.pointer (some ⟨p, 0, none⟩), .string (bs K), .int .i64 n] W fun e w' => ∃ B c, e = .returned (.slice B ((Mm.ents (Mm.Z T K 1099511627776)).take n.toNat).length c) ∧ Elr W.heap.size w' B c ((Mm.ents (Mm.Z T K 1099511627776)).take n.toNat) ∧ Kept W w') := Lib.hid (fun W h => by obtain ⟨F, hF⟩ := h.tab; exact mfrom_any hF K n hn1 hn2)
        have HF2 : Hid (∀ W, Bt w W p r T T → Calls Try.prog 40 #[.pointer (some ⟨r, 0, none⟩), .string (bs K), .int .i64 n] W fun e w' => ∃ B c, e = .returned (.slice B ((Mm.ents (Mm.Z T K 1099511627776)).take n.toNat).length c) ∧ Els w' B ((Mm.ents (Mm.Z T K 1099511627776)).take n.toNat) ∧ Kept W w') := Lib.hid (fun W h => by obtain ⟨G, hG⟩ := h.rt; exact rfrom_any hG K n hn1 hn2)
        have HFL := Lib.hid (show ((Mm.ents (Mm.Z T K 1099511627776)).take n.toNat).length ≤ 1000 from by
          have h1 := Mm.ents_len (Mm.Z T K 1099511627776)
          have h2 := congrArg List.length (Mm.AZ T K 1099511627776)
          rw [List.length_append] at h2
          rw [List.length_take]; omega)
        generalize (Mm.ents (Mm.Z T K 1099511627776)).take n.toNat = FR at *
        rcases hcase with rfl | ⟨rfl, d2, d3⟩
        all_goals
          go_wp2_with fail
          refine (HTW.out _ HT.out).mono ?_
          rintro e w4 ⟨B4, c4, rfl, l4, g4⟩
          have T4 := Lib.hid (HT.out.more g4); have L4 := Lib.hid l4
          obtain ⟨G, AL, cL, AH, cH, hrt⟩ := T4.out.rt
          have HRT := Lib.hid (fun W (KW : Kept w4 W) => hrt.kept KW)
          have r1 := mcell hrt.blk 1 rfl
          have hrl := mheap_lt hrt.blk
          clear l4 g4 hrt HT HTW
          go_wp2_with fail
          go_loopw [129] (fun t wr => ∃ i : Nat, i ≤ T.length ∧ t = .int .i64 (i : Nat) ∧ Hid (Kept w4 wr)) (fun t _ => T.length - (intOf t).toNat)
          case atStart => exact ⟨0, Nat.zero_le _, rfl, Lib.hid (Kept.refl _)⟩
          case round =>
            clear r1 hrl
            obtain ⟨i, hi, rfl, HK⟩ := hrel
            by_cases hit : i < T.length
            · obtain ⟨y, hy⟩ : ∃ y, (Mm.hts T)[i]? = some y := ⟨_, List.getElem?_eq_getElem (by rw [HHL.out]; exact hit)⟩
              obtain ⟨b4, o4, rfl, hb4, c0⟩ := (L4.out.kept HK.out) i y hy
              obtain ⟨b5, o5, rfl, hb5, c1⟩ := (HRT.out _ HK.out).hls i y hy
              have r1 := mcell (HRT.out _ HK.out).blk 1 rfl
              have hrl := mheap_lt (HRT.out _ HK.out).blk
              clear hy
              go_wp2_with fail
              go_quiet (fail)
              go_wp2_with fail
              go_roundw
              case rel => exact ⟨i + 1, by omega, by go_num, Lib.hid (kept_trans HK.out (kept_drewN _ _))⟩
              case measure => simp [intOf]; omega
            · have e : i = T.length := by omega
              subst e
              have HRC := Lib.hid (show ∀ W, Kept wr W → r < W.heap.size ∧ W.cell? ⟨r, 0, none⟩ = some (.slice AL T.length cL) from fun W KW => ⟨mheap_lt (HRT.out _ (kept_trans HK.out KW)).blk, mcell (HRT.out _ (kept_trans HK.out KW)).blk 0 rfl⟩)
              have HEA := Lib.hid (fun W (KW : Kept wr W) => (HRT.out _ (kept_trans HK.out KW)).els)
              have T5 := Lib.hid (T4.out.more HK.out)
              have I0 : KWm wr wr.drew := ⟨⟨rfl, rfl, rfl, Nat.le_refl _, fun _ _ => rfl⟩⟩
              clear HRT L4 T4
              go_wp2_with fail
              refine wp_region_held_drew (S := fun W => KWm wr W) (by kernel_rfl) I0 (fun hHeld => ?_)
              refine wpAnyH_take (i := 0) (v := (.pointer (some ⟨p, 0, none⟩))) (List.getElem?_toArray.trans rfl) (by kernel_rfl) (by kernel_rfl) (by kernel_rfl) (fun _ _ _ h => h) (Or.inl ⟨by rfl, ?_⟩) (by assumption) ?_
              · intro W hSw
                first | rfl | (go_simp; done) | (go_simp; rfl)
              simp only [Act.put, List.setIfInBounds_toArray, List.set_cons_zero, List.set_cons_succ]
              refine wpAnyH_take (i := 2) (v := (.pointer (some ⟨r, 0, none⟩))) (List.getElem?_toArray.trans rfl) (by kernel_rfl) (by kernel_rfl) (by kernel_rfl) (fun _ _ _ h => h) (Or.inl ⟨by rfl, ?_⟩) (by assumption) ?_
              · intro W hSw
                first | rfl | (go_simp; done) | (go_simp; rfl)
              simp only [Act.put, List.setIfInBounds_toArray, List.set_cons_zero, List.set_cons_succ]
              refine wpAnyH_take (i := 3) (v := (.pointer (some ⟨r, 0, none⟩))) (List.getElem?_toArray.trans rfl) (by kernel_rfl) (by kernel_rfl) (by kernel_rfl) (fun _ _ _ h => h) (Or.inl ⟨by rfl, ?_⟩) (by assumption) ?_
              · intro W hSw
                first | rfl | (go_simp; done) | (go_simp; rfl)
              simp only [Act.put, List.setIfInBounds_toArray, List.set_cons_zero, List.set_cons_succ]
              refine wpAnyH_take (i := 4) (v := (.pointer (some ⟨r, 0, none⟩))) (List.getElem?_toArray.trans rfl) (by kernel_rfl) (by kernel_rfl) (by kernel_rfl) (fun _ _ _ h => h) (Or.inl ⟨by rfl, ?_⟩) (by assumption) ?_
              · intro W hSw
                first | rfl | (go_simp; done) | (go_simp; rfl)
              simp only [Act.put, List.setIfInBounds_toArray, List.set_cons_zero, List.set_cons_succ]
              refine wpAnyH_take (i := 5) (v := (.slice AL T.length cL)) (List.getElem?_toArray.trans rfl) (by kernel_rfl) (by kernel_rfl) (by kernel_rfl) (fun _ _ _ h => h) (Or.inl ⟨by rfl, ?_⟩) (by assumption) ?_
              · intro W hSw
                obtain ⟨hb, c0⟩ := HRC.out W hSw.k
                first | (go_simp; done) | (go_simp; rfl)
              simp only [Act.put, List.setIfInBounds_toArray, List.set_cons_zero, List.set_cons_succ]
              refine wpAnyH_ready (rs := [1]) (by kernel_rfl) (by simp) ?_
              refine AllReadyH.cons (List.getElem?_toArray.trans rfl) (fun K hK => ?_) AllReadyH.nil
              go_simp
              refine (HAL.out _ (T5.out.more hHeld.k)).mono ?_
              rintro e wa ⟨Ba, ca, rfl, hea, ga⟩
              go_wp2_with fail
              refine hK.out _ _ ⟨kept_trans hHeld.k ga⟩ (fun hHeld => ?_)
              clear hK K
              have HEB := Lib.hid hea.els
              clear hea ga
              have hka := hHeld.k
              refine wpAnyH_ready (rs := [6]) (by kernel_rfl) (by simp) ?_
              refine AllReadyH.cons (List.getElem?_toArray.trans rfl) (fun K hK => ?_) AllReadyH.nil
              go_simp
              refine (msame_eq (c1 := ca) (c2 := cL) HEB.out (HEA.out _ hka) HEL.out HEL.out (by rw [HEL.out]; omega) rfl).mono ?_
              rintro e wb ⟨rfl, gb⟩
              go_wp2_with fail
              refine hK.out _ _ ⟨kept_trans hka gb⟩ (fun hHeld => ?_)
              clear hK K
              clear gb hka
              refine wpAnyH_take (i := 7) (v := (.bool true)) (List.getElem?_toArray.trans rfl) (by kernel_rfl) (by kernel_rfl) (by kernel_rfl) (fun _ _ _ h => h) (Or.inl ⟨by rfl, ?_⟩) (by assumption) ?_
              · intro W hSw
                first | rfl | (go_simp; done) | (go_simp; rfl)
              simp only [Act.put, List.setIfInBounds_toArray, List.set_cons_zero, List.set_cons_succ]
              refine wpAnyH_take (i := 8) (v := (.pointer (some ⟨p, 0, none⟩))) (List.getElem?_toArray.trans rfl) (by kernel_rfl) (by kernel_rfl) (by kernel_rfl) (fun _ _ _ h => h) (Or.inl ⟨by rfl, ?_⟩) (by assumption) ?_
              · intro W hSw
                first | rfl | (go_simp; done) | (go_simp; rfl)
              simp only [Act.put, List.setIfInBounds_toArray, List.set_cons_zero, List.set_cons_succ]
              refine wpAnyH_take (i := 9) (v := (.string (bs K))) (List.getElem?_toArray.trans rfl) (by kernel_rfl) (by kernel_rfl) (by kernel_rfl) (fun _ _ _ h => h) (Or.inl ⟨by rfl, ?_⟩) (by assumption) ?_
              · intro W hSw
                first | rfl | (go_simp; done) | (go_simp; rfl)
              simp only [Act.put, List.setIfInBounds_toArray, List.set_cons_zero, List.set_cons_succ]
              refine wpAnyH_take (i := 10) (v := (.int .i64 n)) (List.getElem?_toArray.trans rfl) (by kernel_rfl) (by kernel_rfl) (by kernel_rfl) (fun _ _ _ h => h) (Or.inl ⟨by rfl, ?_⟩) (by assumption) ?_
              · intro W hSw
                first | rfl | (go_simp; done) | (go_simp; rfl)
              simp only [Act.put, List.setIfInBounds_toArray, List.set_cons_zero, List.set_cons_succ]
              refine wpAnyH_take (i := 12) (v := (.pointer (some ⟨r, 0, none⟩))) (List.getElem?_toArray.trans rfl) (by kernel_rfl) (by kernel_rfl) (by kernel_rfl) (fun _ _ _ h => h) (Or.inl ⟨by rfl, ?_⟩) (by assumption) ?_
              · intro W hSw
                first | rfl | (go_simp; done) | (go_simp; rfl)
              simp only [Act.put, List.setIfInBounds_toArray, List.set_cons_zero, List.set_cons_succ]
              refine wpAnyH_take (i := 13) (v := (.string (bs K))) (List.getElem?_toArray.trans rfl) (by kernel_rfl) (by kernel_rfl) (by kernel_rfl) (fun _ _ _ h => h) (Or.inl ⟨by rfl, ?_⟩) (by assumption) ?_
              · intro W hSw
                first | rfl | (go_simp; done) | (go_simp; rfl)
              simp only [Act.put, List.setIfInBounds_toArray, List.set_cons_zero, List.set_cons_succ]
              refine wpAnyH_take (i := 14) (v := (.int .i64 n)) (List.getElem?_toArray.trans rfl) (by kernel_rfl) (by kernel_rfl) (by kernel_rfl) (fun _ _ _ h => h) (Or.inl ⟨by rfl, ?_⟩) (by assumption) ?_
              · intro W hSw
                first | rfl | (go_simp; done) | (go_simp; rfl)
              simp only [Act.put, List.setIfInBounds_toArray, List.set_cons_zero, List.set_cons_succ]
              have hkb := hHeld.k
              refine wpAnyH_ready (rs := [11]) (by kernel_rfl) (by simp) ?_
              refine AllReadyH.cons (List.getElem?_toArray.trans rfl) (fun K hK => ?_) AllReadyH.nil
              go_simp
              refine (HF1.out _ (T5.out.more hkb)).mono ?_
              rintro e wc ⟨Bc, cc, rfl, hec, gc⟩
              go_wp2_with fail
              refine hK.out _ _ ⟨kept_trans hkb gc⟩ (fun hHeld => ?_)
              clear hK K
              have HEC := Lib.hid hec.els
              clear hec gc hkb
              have hkc := hHeld.k
              refine wpAnyH_ready (rs := [15]) (by kernel_rfl) (by simp) ?_
              refine AllReadyH.cons (List.getElem?_toArray.trans rfl) (fun K hK => ?_) AllReadyH.nil
              go_simp
              refine (HF2.out _ (T5.out.more hkc)).mono ?_
              rintro e wd ⟨Bd, cd, rfl, hed, gd⟩
              go_wp2_with fail
              refine hK.out _ _ ⟨kept_trans hkc gd⟩ (fun hHeld => ?_)
              clear hK K
              have HED := Lib.hid hed; have HEC2 := Lib.hid (HEC.out.kept gd)
              clear hed gd hkc
              have hkd := hHeld.k
              refine wpAnyH_ready (rs := [16]) (by kernel_rfl) (by simp) ?_
              refine AllReadyH.cons (List.getElem?_toArray.trans rfl) (fun K hK => ?_) AllReadyH.nil
              go_simp
              refine (msame_eq (c1 := cc) (c2 := cd) HEC2.out HED.out rfl rfl HFL.out rfl).mono ?_
              rintro e we ⟨rfl, ge⟩
              go_wp2_with fail
              refine hK.out _ _ ⟨kept_trans hkd ge⟩ (fun hHeld => ?_)
              clear hK K
              clear ge hkd
              refine wpAnyH_take (i := 17) (v := (.bool true)) (List.getElem?_toArray.trans rfl) (by kernel_rfl) (by kernel_rfl) (by kernel_rfl) (fun _ _ _ h => h) (Or.inl ⟨by rfl, ?_⟩) (by assumption) ?_
              · intro W hSw
                first | rfl | (go_simp; done) | (go_simp; rfl)
              simp only [Act.put, List.setIfInBounds_toArray, List.set_cons_zero, List.set_cons_succ]
              refine wpAnyH_take (i := 18) (v := (.bool true)) (List.getElem?_toArray.trans rfl) (by kernel_rfl) (by kernel_rfl) (by kernel_rfl) (fun _ _ _ h => h) (Or.inl ⟨by rfl, ?_⟩) (by assumption) ?_
              · intro W hSw
                first | rfl | (go_simp; done) | (go_simp; rfl)
              simp only [Act.put, List.setIfInBounds_toArray, List.set_cons_zero, List.set_cons_succ]
              refine wpAnyH_done (by kernel_rfl) ?_ _
              have hK := kept_trans T5.out.kept hHeld.k
              go_wp2_with fail
              go_ret
              exact ⟨rfl, hK⟩
end Go.Proofs.Ytpbhbgoaaephgaa
