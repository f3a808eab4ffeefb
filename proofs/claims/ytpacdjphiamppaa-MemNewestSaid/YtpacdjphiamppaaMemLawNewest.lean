/-
  The walk of MemNewest.
-/
import Derived.Test.YtpacdjphiamppaaMemWake
import Derived.Test.YtpacdjphiamppaaMemLawMath
namespace Go.Proofs.Ytpacdjphiamppaa
open Go.ChangeShapes Go.WideShapes Go.ChangeAt Go.RowKit
set_option linter.unusedVariables false
set_option maxRecDepth 100000
set_option maxHeartbeats 2000000

def entObj (x : Mm.Ent) : Obj := .cells #[.string (bs x.key), .int .u64 (x.seq : Nat), .bool x.del, .string (bs x.val)] 34
theorem ent_set {w : World} {b : Nat} {x : Mm.Ent} (h : w.heap[b]? = some (entObj x)) (y : Mm.Ent) : ((((w.setCell ⟨b, 0, none⟩ (.string (bs y.key))).setCell ⟨b, 1, none⟩ (.int .u64 (y.seq : Nat))).setCell ⟨b, 2, none⟩ (.bool y.del)).setCell ⟨b, 3, none⟩ (.string (bs y.val))).heap[b]? = some (entObj y) := by
  rw [mheap_set (mheap_set (mheap_set (mheap_set h)))]; rfl
/-- the memory of the search for the newest -/
structure NwI (w wi : World) (xx : Nat) (X Y : Mm.Ent) (B : Option Addr) (E : List Mm.Ent) : Prop where
  kept : Kept w wi
  xb : wi.heap[xx]? = some (entObj X)
  yb : wi.heap[xx + 1]? = some (entObj Y)
  els : Elr (xx + 2) wi B E
theorem NwI.more {w wi wj : World} {xx : Nat} {X Y : Mm.Ent} {B : Option Addr} {E : List Mm.Ent} (h : NwI w wi xx X Y B E) (k : Kept wi wj) : NwI w wj xx X Y B E :=
  ⟨kept_trans h.kept k, (Below.block k _ (mheap_lt h.xb)).trans h.xb, (Below.block k _ (mheap_lt h.yb)).trans h.yb, h.els.kept k⟩
theorem mcell_other {w : World} {b o : Nat} {v : Value} {a : Addr} (h : a.block ≠ b) : (w.setCell ⟨b, o, none⟩ v).cell? a = w.cell? a := by
  unfold World.cell?
  rw [mheap_other h]
theorem Els.off {w : World} {A : Option Addr} {l : List Mm.Ent} {c o : Nat} {v : Value} (h : Els w A l) (hc : ∀ b o, A = some ⟨b, o, none⟩ → b ≠ c) : Els (w.setCell ⟨c, o, none⟩ v) A l := fun j x hx => by
  obtain ⟨b, o', e, hb, h0, h1, h2, h3⟩ := h j x hx
  have hne := hc b o' e
  exact ⟨b, o', e, by simpa [World.setCell] using hb, by rw [mcell_other hne]; exact h0, by rw [mcell_other hne]; exact h1, by rw [mcell_other hne]; exact h2, by rw [mcell_other hne]; exact h3⟩
theorem NwI.set {w wi : World} {xx : Nat} {X Y : Mm.Ent} {B : Option Addr} {E : List Mm.Ent} (h : NwI w wi xx X Y B E) (hw : w.heap.size ≤ xx) (Y' : Mm.Ent) : NwI w ((((wi.setCell ⟨xx + 1, 0, none⟩ (.string (bs Y'.key))).setCell ⟨xx + 1, 1, none⟩ (.int .u64 (Y'.seq : Nat))).setCell ⟨xx + 1, 2, none⟩ (.bool Y'.del)).setCell ⟨xx + 1, 3, none⟩ (.string (bs Y'.val))) xx X Y' B E := by
  have hn : ∀ b o, B = some ⟨b, o, none⟩ → b ≠ xx + 1 := fun b o e => by have := h.els.new b o e; omega
  refine ⟨kept_own (kept_own (kept_own (kept_own h.kept (by omega)) (by omega)) (by omega)) (by omega), ?_, ent_set h.yb Y', ⟨(((h.els.els.off hn).off hn).off hn).off hn, h.els.new⟩⟩
  rw [mheap_other (by omega), mheap_other (by omega), mheap_other (by omega), mheap_other (by omega)]
  exact h.xb
theorem MemNewest_walk {w : World} (A : Option Addr) (cap : Nat) (l : List Pt) (key : ByteArray) (seq : Int) (hA : Puts w A l) (hL : l.length ≤ maxLen ∧ PutsOk l) (hkey : key.size ≤ maxLen) (hseq : (Lit.int .u64 seq).wf = true) :
    Calls Try.prog 6 #[.slice A l.length cap, .string key, .int .u64 seq] w fun e w' => e = .returned (.bool true) ∧ Kept w w' := by
  obtain ⟨hlen, hok⟩ := hL
  obtain ⟨hs1, hs2⟩ := bounds_u64 hseq
  obtain ⟨K, rfl⟩ : ∃ K, key = bs K := ⟨_, (mbs_self key).symm⟩
  obtain ⟨S, rfl⟩ : ∃ S : Nat, seq = (S : Int) := ⟨seq.toNat, by omega⟩
  unfold maxLen at hlen hkey
  have HOK := Lib.hid hok
  clear hok hseq
  by_cases h300 : 300 < (bs K).size
  · have d1 : decide ((300 : Int) < ((bs K).size : Int)) = true := by simp; omega
    go_enter Try.func6, Try.ntmps6
    go_wp2_with fail
    refine (mawake_any _).mono ?_
    rintro e w1 ⟨rfl, g1⟩
    go_wp2_with fail
    go_ret
    exact ⟨rfl, g1⟩
  · have d1 : decide ((300 : Int) < ((bs K).size : Int)) = false := by simp; omega
    clear h300 hkey
    go_enter Try.func6, Try.ntmps6
    go_wp2_with fail
    refine (mawake_any _).mono ?_
    rintro e w1 ⟨rfl, g1⟩
    go_wp2_with fail
    refine (ts_new (W := w) g1).mono ?_
    rintro e w2 ⟨rfl, t2⟩
    have T2 := Lib.hid t2
    clear t2
    generalize w1.heap.size = p at *
    go_wp2_with fail
    go_loopw [8] (fun t wr => ∃ (k : Nat) (T : List Mm.Tv), k ≤ l.length ∧ k ≤ 200 ∧ t = .int .i64 k ∧ T.length ≤ k ∧ Hid (Ts w wr p T)) (fun t _ => l.length - (intOf t).toNat)
    case atStart => exact ⟨0, [], Nat.zero_le _, Nat.zero_le _, rfl, Nat.le_refl _, T2⟩
    case round =>
      clear T2
      obtain ⟨k, T, hk, hk2, rfl, hTk, HT⟩ := hrel
      by_cases hlt : k < l.length ∧ k < 200
      · obtain ⟨hlt1, hlt2⟩ := hlt
        have d2 : decide ((k : Int) < (l.length : Int)) = true := by simp; omega
        have d3 : decide ((k : Int) < 200) = true := by simp; omega
        obtain ⟨x, hx⟩ : ∃ x, l[k]? = some x := ⟨_, List.getElem?_eq_getElem hlt1⟩
        obtain ⟨q1, q2, q3, q4⟩ := HOK.out x (List.mem_of_getElem? hx)
        obtain ⟨b, o, rfl, hb, c0, c1, c2, c3, c4⟩ := (hA.kept HT.out.kept) k x hx
        have hcl := fun W => mlarge_any x.e W q1 q2
        have HPUT := Lib.hid (fun W (h : Ts w W p T) => h.put (by omega) x.e x.h q1 q2)
        unfold entV at hcl HPUT
        clear hx
        cases hlg : (decide (300 < x.e.key.length) || decide (300 < x.e.val.length)) with
        | true =>
          rw [hlg] at hcl
          clear hlg
          go_wp2_with fail
          refine (hcl _).mono ?_
          rintro e w3 ⟨rfl, g3⟩
          have kk := kept_trans HT.out.kept g3
          go_wp2_with fail
          go_ret
          exact ⟨rfl, kk⟩
        | false =>
          rw [hlg] at hcl
          clear hlg
          go_wp2_with fail
          refine (hcl _).mono ?_
          rintro e w3 ⟨rfl, g3⟩
          have T3 := Lib.hid (HT.out.more g3)
          have z0 := (kept_cell g3 (p := ⟨b, o + k * 5, none⟩) hb).trans c0
          have z1 := (kept_cell g3 (p := ⟨b, o + k * 5 + 1, none⟩) hb).trans c1
          have z2 := (kept_cell g3 (p := ⟨b, o + k * 5 + 2, none⟩) hb).trans c2
          have z3 := (kept_cell g3 (p := ⟨b, o + k * 5 + 3, none⟩) hb).trans c3
          have z4 := (kept_cell g3 (p := ⟨b, o + k * 5 + 4, none⟩) hb).trans c4
          clear c0 c1 c2 c3 c4 hcl HT
          go_wp2_with fail
          go_region_with (go_at_call 13; refine (HPUT.out _ (T3.out.more (kept_drewN _ 1))).mono ?_; rintro e w4 ⟨rfl, t4⟩)
          all_goals
            have HT4 := Lib.hid t4
            have hpl := Mm.put_len_le T x.e x.h
            clear t4
            go_wp2_with fail
            go_roundw
            case rel => exact ⟨k + 1, _, by omega, by omega, by go_num, by omega, HT4⟩
            case measure => simp [intOf]; omega
      · have hT := HT.out
        have hgood := hT.tab.good
        have hgf := Mm.get_find hgood K S
        have HG := Lib.hid hgood
        have hT200 : T.length ≤ 200 := by omega
        have HGET := Lib.hid (fun W (h : Ts w W p T) => mget_any h.tab K S)
        have HALL := Lib.hid (fun W (h : Ts w W p T) => mall_any h.tab)
        have HGF := Lib.hid hgf
        have HEL := Lib.hid (Mm.ents_len T)
        unfold getV entV at HGET
        clear hT hgood hgf
        have hcase : k = l.length ∨ (k = 200 ∧ decide ((200 : Int) < (l.length : Int)) = true ∧ 200 < l.length) := by
          by_cases h1 : k < l.length
          · exact .inr ⟨by omega, by simp; omega, by omega⟩
          · exact .inl (by omega)
        clear hlt
        generalize hX : (Mm.get T K S).getD Mm.zent = X at *
        generalize hI : (Mm.get T K S).isSome = I at *
        have HX := Lib.hid hX; have HI := Lib.hid hI
        clear hX hI
        rcases hcase with rfl | ⟨rfl, d2, d3⟩
        all_goals
          go_wp2_with fail
          refine (HGET.out _ HT.out).mono ?_
          rintro e w3 ⟨rfl, g3⟩
          have T3 := Lib.hid (HT.out.more g3)
          go_wp2_with fail
          have k3 : ∀ o o', Kept w3 ((w3.alloc o).alloc o') := fun o o' => ((Kept.refl _).alloc _).alloc _
          refine (HALL.out _ (T3.out.more (k3 _ _))).mono ?_
          rintro e w4 ⟨B, c, rfl, l4, g4⟩
          have xb : w4.heap[w3.heap.size]? = some (entObj X) := (Below.block g4 _ (by simp only [World.size_alloc]; omega)).trans ((malloc_old _ _ (by simp only [World.size_alloc]; omega)).trans (malloc_new w3 _))
          have yb : w4.heap[w3.heap.size + 1]? = some (entObj Mm.zent) := (Below.block g4 _ (by simp only [World.size_alloc]; omega)).trans (by rw [← malloc_size w3 (entObj X)]; exact malloc_new _ _)
          have hw3 : w.heap.size ≤ w3.heap.size := Below.size T3.out.kept
          have NI : Hid (NwI w w4 w3.heap.size X Mm.zent B (Mm.ents T)) := Lib.hid ⟨kept_trans T3.out.kept (kept_trans (k3 _ _) g4), xb, yb, by simpa only [World.size_alloc] using l4⟩
          clear xb yb l4 g4 k3 g3 T3 HALL HGET
          generalize w3.heap.size = xx at *
          go_wp2_with fail
          go_loopw [12, 60] (fun f t wi => ∃ i : Nat, i ≤ T.length ∧ t = .int .i64 i ∧ f = .bool (Mm.bst K S ((Mm.ents T).take i)).isSome ∧ Hid (NwI w wi xx X ((Mm.bst K S ((Mm.ents T).take i)).getD Mm.zent) B (Mm.ents T))) (fun _ t _ => T.length - (intOf t).toNat)
          case atStart => exact ⟨0, Nat.zero_le _, rfl, rfl, NI⟩
          case round =>
            clear NI HT
            obtain ⟨i, hi, rfl, rfl, NI⟩ := hrel
            by_cases hit : i < T.length
            · obtain ⟨y, hy⟩ : ∃ y, (Mm.ents T)[i]? = some y := ⟨_, List.getElem?_eq_getElem (by rw [HEL.out]; exact hit)⟩
              have hst := Mm.bst_step (k := K) (s := S) hy
              obtain ⟨b, o, rfl, hb, c0, c1, c2, c3⟩ := NI.out.els.els i y hy
              have HNEW := Lib.hid (fun bb (hb : Mm.bst K S ((Mm.ents T).take i) = some bb) (hk : y.key = K) => Mm.bst_newer HG.out hy hb hk)
              have hkb := Below.size NI.out.kept
              have x1 := mheap_lt NI.out.yb
              by_cases hyk : y.key = K
              · have e1 : ((bs y.key).toList == (bs K).toList) = true := by rw [mbs_eq]; exact decide_eq_true hyk
                by_cases hys : y.seq ≤ S
                · have e2 : decide ((y.seq : Int) ≤ (S : Int)) = true := by simp; omega
                  have hm : Mm.mt K S y = true := Mm.mt_iff.2 ⟨hyk, hys⟩
                  rw [hm] at hst
                  cases hbs : Mm.bst K S ((Mm.ents T).take i) with
                  | some bb =>
                    have hlt := HNEW.out bb hbs hyk
                    rw [hbs] at hst NI
                    simp only [Option.getD_some, Option.isSome_some, Option.some_or] at NI hst ⊢
                    have e3 : decide ((bb.seq : Int) < (y.seq : Int)) = false := by simp; omega
                    have v1 := mcell NI.out.yb 1 rfl
                    have HST := Lib.hid hst
                    clear hst hbs hm HNEW hy hyk
                    go_wp2_with fail
                    go_roundw
                    case rel => exact ⟨i + 1, by omega, by go_num, by (rw [HST.out]; try rfl), Lib.hid (by rw [HST.out]; exact NI.out.more ((Kept.refl _).alloc _))⟩
                    case measure => simp [intOf]; omega
                  | none =>
                    rw [hbs] at hst NI
                    simp only [Option.getD_none, Option.isSome_none, Option.none_or, if_true] at NI hst ⊢
                    have HST := Lib.hid hst
                    have v0 := mcell NI.out.yb 0 rfl; have v1 := mcell NI.out.yb 1 rfl; have v2 := mcell NI.out.yb 2 rfl; have v3 := mcell NI.out.yb 3 rfl
                    have f0 := mfrozen NI.out.yb
                    clear hst hbs hm HNEW hy hyk
                    go_wp2_with fail
                    go_roundw
                    case rel => exact ⟨i + 1, by omega, by go_num, by (rw [HST.out]; try rfl), Lib.hid (by rw [HST.out]; exact (NI.out.set hw3 y).more ((Kept.refl _).alloc _))⟩
                    case measure => simp [intOf]; omega
                · have e2 : decide ((y.seq : Int) ≤ (S : Int)) = false := by simp; omega
                  have hm : Mm.mt K S y = false := by rw [Bool.eq_false_iff, ne_eq, Mm.mt_iff]; exact fun c => hys c.2
                  rw [hm] at hst
                  simp only [Bool.false_eq_true, if_false, Option.or_none] at hst
                  have HST := Lib.hid hst
                  have HYS := Lib.hid hys
                  clear hst hm HNEW hy hyk hys
                  generalize Mm.bst K S ((Mm.ents T).take i) = bo at *
                  go_wp2_with fail
                  go_roundw
                  case rel => exact ⟨i + 1, by omega, by go_num, by (rw [HST.out]; try rfl), Lib.hid (by rw [HST.out]; exact NI.out.more ((Kept.refl _).alloc _))⟩
                  case measure => simp [intOf]; omega
              · have e1 : ((bs y.key).toList == (bs K).toList) = false := by rw [mbs_eq]; exact decide_eq_false hyk
                have hm : Mm.mt K S y = false := by rw [Bool.eq_false_iff, ne_eq, Mm.mt_iff]; exact fun c => hyk c.1
                rw [hm] at hst
                simp only [Bool.false_eq_true, if_false, Option.or_none] at hst
                have HST := Lib.hid hst
                clear hst hm HNEW hy hyk
                generalize Mm.bst K S ((Mm.ents T).take i) = bo at *
                go_wp2_with fail
                go_roundw
                case rel => exact ⟨i + 1, by omega, by go_num, by (rw [HST.out]; try rfl), Lib.hid (by rw [HST.out]; exact NI.out.more ((Kept.refl _).alloc _))⟩
                case measure => simp [intOf]; omega
            · have e : i = T.length := by omega
              subst e
              rw [List.take_of_length_le (by rw [HEL.out]; omega)] at NI ⊢
              rw [show Mm.bst K S (Mm.ents T) = Mm.get T K S from HGF.out.symm] at NI ⊢
              rw [HX.out] at NI
              rw [HI.out]
              have u0 := mcell NI.out.xb 0 rfl; have u1 := mcell NI.out.xb 1 rfl; have u2 := mcell NI.out.xb 2 rfl; have u3 := mcell NI.out.xb 3 rfl
              have v0 := mcell NI.out.yb 0 rfl; have v1 := mcell NI.out.yb 1 rfl; have v2 := mcell NI.out.yb 2 rfl; have v3 := mcell NI.out.yb 3 rfl
              have HK := Lib.hid NI.out.kept
              clear NI
              go_wp2_with fail
              go_ret
              exact ⟨rfl, HK.out⟩
end Go.Proofs.Ytpacdjphiamppaa
