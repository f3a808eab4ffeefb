/-
  Package level over memory: tables that are linked by their ranges; is something below?
-/
import Derived.Test.YtnnmalpnjlnnlaaGreatLevelOver
import Derived.Deep.LoopGhost
namespace Go.Proofs.YtnnmalpnjlnnlaaGreat
open Go.ChangeShapes Go.WideShapes Go.ChangeAt Go.RowKit
set_option linter.unusedVariables false
set_option maxRecDepth 100000
set_option maxHeartbeats 6000000
open Lv
theorem lvmeet_no {w : World} (p : Nat) (z : Int) (hz : ¬ (0 ≤ z ∧ z < 4)) (a b : ByteArray) :
    Calls Tryz.prog 22 #[.pointer (some ⟨p, 0, none⟩), .int .i64 z, .string a, .string b] w fun e w' => e = .returned (.slice none 0 0) ∧ w' = w := by
  have HI := Lib.hid (fun W => lvisl_any z W)
  have d1 : (decide ((0 : Int) ≤ z) && decide (z < 4)) = false := by
    rw [Bool.eq_false_iff]; simpa using fun h1 h2 => hz ⟨h1, h2⟩
  rw [d1] at HI
  clear d1
  go_enter Tryz.func22, Tryz.ntmps22
  go_wp2_with fail
  refine (HI.out _).mono ?_
  rintro e w' ⟨rfl, rfl⟩
  go_wp2_with fail
  go_ret
  exact ⟨rfl, rfl⟩
theorem sp_eql (s t : List UInt8 × List UInt8) (W : World) : Sem.run Tryz.prog (binOp .eql 88 (.agg #[.string (bs s.1), .string (bs s.2)]) (.agg #[.string (bs t.1), .string (bs t.2)])) W = .ok (.bool (decide (s = t))) W := by
  rw [run_eql_struct, run_equalIn_struct _ _ _ _ _ (by kernel_rfl) (by kernel_rfl)]
  simp [go_sem]
  obtain ⟨a, b⟩ := s
  obtain ⟨c, d⟩ := t
  simp only [lvbs_list, Prod.mk.injEq]
  by_cases h1 : a = c
  · by_cases h2 : b = d <;> simp [h1, h2]
  · simp [h1]
theorem four_cells {w : World} {b : Nat} {x0 x1 x2 x3 : Value} {t : TypeId} (h : w.heap[b]? = some (.cells #[x0, x1, x2, x3] t (0, 0))) :
    w.cell? ⟨b, 0, none⟩ = some x0 ∧ w.cell? ⟨b, 1, none⟩ = some x1 ∧ w.cell? ⟨b, 2, none⟩ = some x2 ∧ w.cell? ⟨b, 3, none⟩ = some x3 :=
  ⟨mcell h 0 (by rfl), mcell h 1 (by rfl), mcell h 2 (by rfl), mcell h 3 (by rfl)⟩
theorem hp_kept {w w1 : World} {b : Nat} {o : Obj} (h : w.heap[b]? = some o) (k : Kept w w1) : w1.heap[b]? = some o := (Below.block k b (Array.getElem?_eq_some_iff.1 h).1).trans h
theorem own_set' {w : World} {B b n size : Nat} {e : TypeId} {v : Value} {xs : List Value} (ho : w.ownsRow B e size v n xs) (hne : v.ownBlock ≠ some b) (j : Nat) (x : Value) : (w.setCell ⟨b, j, none⟩ x).ownsRow B e size v n xs :=
  ho.kept (row := some b) ⟨rfl, rfl, rfl, by simp [World.setCell], fun k _ hk => Below.heap_setCell _ _ _ _ (fun e => hk (by simp [e]))⟩ (.inr hne)
theorem own_new {w : World} {B n size : Nat} {e : TypeId} {v : Value} {xs : List Value} (ho : w.ownsRow B e size v n xs) {b : Nat} (h : v.ownBlock = some b) : B ≤ b ∧ b < w.heap.size := by
  rcases ho.2 with ⟨rfl, _⟩ | ⟨g, c, cur, rfl, h1, h2, _⟩
  · cases h
  · cases h; exact ⟨h1, (Array.getElem?_eq_some_iff.1 h2).1⟩
theorem lvlinked_any {T : Nat → Lvl} {w : World} (h : Tin w T) (k : Nat) (hk : k < 4) (hl : (T k).l.length ≤ 100000) (s : List UInt8 × List UInt8) :
    Calls Tryz.prog 52 #[tbv T, .int .i64 (k : Nat), spv s.1 s.2] w fun e w' => ∃ v t, e = .returned (.tuple #[v, spv t.1 t.2]) ∧ Rch (T k).l s t ∧ lstep (T k).l t = t ∧ w'.ownsRow w.heap.size 43 5 v (meet (T k).l t.1 t.2).length (mtl (meet (T k).l t.1 t.2)) ∧ Kept w w' := by
  have HT := Lib.hid h
  have HM := Lib.hid (fun W (hW : Kept w W) (t : List UInt8 × List UInt8) => lvmeeting_any (h.kept hW) k hk hl t.1 t.2)
  have HO := Lib.hid (fun W A (l : List Meta) (hA : Mts W A l) (h1 : l.length ≤ 100000) c (t : List UInt8 × List UInt8) => lvover_any (w := W) hA h1 c t)
  obtain ⟨l, hl2⟩ : ∃ l, l = (T k).l := ⟨_, rfl⟩
  rw [← hl2] at hl HM ⊢
  clear h hl2
  unfold tbv spv at HM
  unfold spv at HO
  unfold tbv spv
  generalize (T 0).v = x0 at *
  generalize (T 1).v = x1 at *
  generalize (T 2).v = x2 at *
  generalize (T 3).v = x3 at *
  go_enter Tryz.func52, Tryz.ntmps52
  go_wp2_with fail
  go_loopg [8] (msr l s) (fun gg _ wr => ∃ t, Hid (Rch l s t) ∧ Hid (msr l t ≤ gg) ∧ Hid (wr.heap[w.heap.size]? = some (.cells #[x0, x1, x2, x3] 71 (0, 0))) ∧ Hid (wr.heap[w.heap.size + 1]? = some (.cells #[.string (bs t.1), .string (bs t.2)] 88 (0, 0))) ∧ Hid (wr.heap[w.heap.size + 1 + 1]? = some (.cells #[.string ⟨#[]⟩, .string ⟨#[]⟩] 88 (0, 0))) ∧ Hid (Kept w wr))
  case atStart =>
    refine ⟨s, Rch.start s, Nat.le_refl _, ?_, ?_, ?_, (((Kept.refl _).alloc _).alloc _).alloc _⟩
    · exact (malloc_old _ _ (by simp; omega)).trans ((malloc_old _ _ (by simp)).trans (malloc_new w _))
    · have := malloc_new (w.alloc (.cells #[x0, x1, x2, x3] 71)) (.cells #[.string (bs s.1), .string (bs s.2)] 88)
      rw [show (w.alloc (.cells #[x0, x1, x2, x3] 71)).heap.size = w.heap.size + 1 from by simp] at this
      exact (malloc_old _ _ (by simp)).trans this
    · have := malloc_new ((w.alloc (.cells #[x0, x1, x2, x3] 71)).alloc (.cells #[.string (bs s.1), .string (bs s.2)] 88)) (.cells #[.string ⟨#[]⟩, .string ⟨#[]⟩] 88)
      rw [show ((w.alloc (.cells #[x0, x1, x2, x3] 71)).alloc (.cells #[.string (bs s.1), .string (bs s.2)] 88)).heap.size = w.heap.size + 1 + 1 from by simp] at this
      exact this
  case round =>
    obtain ⟨t, HR, HG, HB, HS, HZ, HK⟩ := hrel
    obtain ⟨b0, b1, b2, b3⟩ := four_cells HB.out
    have s0 := mcell HS.out 0 (v := .string (bs t.1)) (by rfl)
    have s1 := mcell HS.out 1 (v := .string (bs t.2)) (by rfl)
    go_wp2_with fail
    refine (HM.out _ HK.out t).mono ?_
    rintro e w1 ⟨v, rfl, hown, g1⟩
    obtain ⟨A, c, rfl, hn, hMr⟩ := mts_own hown
    have HMR := Lib.hid hMr
    have HOW := Lib.hid hown
    have HS1 := Lib.hid (hp_kept HS.out g1)
    clear s0 s1 b0 b1 b2 b3 hown hMr hn
    have s0 := mcell HS1.out 0 (v := .string (bs t.1)) (by rfl)
    have s1 := mcell HS1.out 1 (v := .string (bs t.2)) (by rfl)
    have G1 := Lib.hid g1
    have hml := meet_le l t.1 t.2
    have HST := Lib.hid (show over t (meet l t.1 t.2) = lstep l t from rfl)
    generalize hX : meet l t.1 t.2 = X at *
    have HX := Lib.hid hX
    clear hX g1
    go_wp2_with fail
    refine (HO.out _ _ _ HMR.out.mts (by omega) c t).mono ?_
    rintro e w2 ⟨rfl, g2⟩
    rw [HST.out]
    obtain ⟨u, hu⟩ : ∃ u, u = lstep l t := ⟨_, rfl⟩
    rw [← hu]
    have HU := Lib.hid hu
    clear hu
    have HS2 := Lib.hid (hp_kept HS1.out g2)
    have HO2 := Lib.hid g2
    have hs2 := mheap_lt HS2.out
    clear s0 s1
    have s0 := mcell HS2.out 0 (v := .string (bs t.1)) (by rfl)
    have s1 := mcell HS2.out 1 (v := .string (bs t.2)) (by rfl)
    have heq := sp_eql u t
    have f0 := mfrozen HS2.out 0
    have f1 := mfrozen HS2.out 1
    have HZ2 := Lib.hid (hp_kept (hp_kept HZ.out G1.out) g2)
    have hz2 := mheap_lt HZ2.out
    have z0 := mcell HZ2.out 0 (v := .string ⟨#[]⟩) (by rfl)
    have z1 := mcell HZ2.out 1 (v := .string ⟨#[]⟩) (by rfl)
    have y0 := mfrozen HZ2.out 0
    have y1 := mfrozen HZ2.out 1
    have HK2 := Lib.hid (kept_trans HK.out (kept_trans G1.out g2))
    have HB2 := Lib.hid (hp_kept (hp_kept HB.out G1.out) g2)
    by_cases hut : u = t
    · rw [decide_eq_true hut] at heq
      have HUT := Lib.hid hut
      clear hut g2
      go_wp2_with fail
      have HS4 := Lib.hid (hp_kept HS2.out ((Kept.refl w2).alloc (.cells #[.string (bs u.1), .string (bs u.2)] 88)))
      have HZ4 := Lib.hid (hp_kept HZ2.out ((Kept.refl w2).alloc (.cells #[.string (bs u.1), .string (bs u.2)] 88)))
      have HK4 := Lib.hid (kept_trans HK2.out ((Kept.refl w2).alloc (.cells #[.string (bs u.1), .string (bs u.2)] 88)))
      have HO4 := Lib.hid (own_kept (own_kept HOW.out (HO2.out)) ((Kept.refl w2).alloc (.cells #[.string (bs u.1), .string (bs u.2)] 88)))
      clear s0 s1 z0 z1 y0 y1 f0 f1 hs2 hz2 heq
      generalize w2.alloc (.cells #[.string (bs u.1), .string (bs u.2)] 88) = wz at *
      have s0 := mcell HS4.out 0 (v := .string (bs t.1)) (by rfl)
      have s1 := mcell HS4.out 1 (v := .string (bs t.2)) (by rfl)
      have z0 := mcell HZ4.out 0 (v := .string ⟨#[]⟩) (by rfl)
      have z1 := mcell HZ4.out 1 (v := .string ⟨#[]⟩) (by rfl)
      have y0 := mfrozen HZ4.out 0
      have y1 := mfrozen HZ4.out 1
      have HWR := Lib.hid (mheap_lt HZ.out)
      clear HM HO HT HB HS HZ HS1 HS2 HZ2 HB2 HMR
      go_region
      have hne : (Value.slice A X.length c).ownBlock ≠ some (w.heap.size + 1 + 1) := fun e => by
        have h1 := (own_new HO4.out e).1
        have h2 := HWR.out
        omega
      have n2 := lvset (lvset HZ4.out 0 (.string (bs t.1))) 1 (.string (bs t.2))
      have HOZ := Lib.hid (own_set' (own_set' HO4.out hne 0 (.string (bs t.1))) hne 1 (.string (bs t.2)))
      have gz : Kept w ((wz.setCell ⟨w.heap.size + 1 + 1, 0, none⟩ (.string (bs t.1))).setCell ⟨w.heap.size + 1 + 1, 1, none⟩ (.string (bs t.2))) := Below.setCell (Below.setCell HK4.out (by show w.heap.size ≤ w.heap.size + 1 + 1; omega) _) (by show w.heap.size ≤ w.heap.size + 1 + 1; omega) _
      generalize (wz.setCell ⟨w.heap.size + 1 + 1, 0, none⟩ (.string (bs t.1))).setCell ⟨w.heap.size + 1 + 1, 1, none⟩ (.string (bs t.2)) = wy at *
      have c0 : wy.drew.cell? ⟨w.heap.size + 1 + 1, 0, none⟩ = some (.string (bs t.1)) := mcell n2 0 (by rfl)
      have c1 : wy.drew.cell? ⟨w.heap.size + 1 + 1, 1, none⟩ = some (.string (bs t.2)) := mcell n2 1 (by rfl)
      have HG2 := Lib.hid (show Kept w wy.drew from kept_trans gz (kept_drewN _ 1))
      clear gz n2 hne s0 s1 z0 z1 y0 y1
      go_wp2_with fail
      refine bodyPost_ret (v := .tuple #[.slice A X.length c, .agg #[.string (bs t.1), .string (bs t.2)]]) (by simp [results, Tryz.results52, go_sem, c0, c1]) rfl ⟨_, t, rfl, HR.out, ?_, ?_, HG2.out⟩
      · rw [← HU.out]; exact HUT.out
      · rw [HX.out]
        exact own_base (own_kept HOZ.out (kept_drewN _ 1)) (by have := Below.size HK.out; exact this)
    · rw [decide_eq_false hut] at heq
      have HUT := Lib.hid hut
      clear hut g2
      have HA := Lib.hid ((Kept.refl w2).alloc (.cells #[.string (bs u.1), .string (bs u.2)] 88))
      go_wp2_with fail
      go_roundg (msr l u)
      case measure =>
        have := msr_less (l := l) (s := t) (by rw [← HU.out]; exact HUT.out)
        rw [← HU.out] at this
        have := HG.out
        omega
      case rel =>
        refine ⟨u, by rw [HU.out]; exact HR.out.more, Nat.le_refl _, ?_, ?_, ?_, ?_⟩
        · exact hp_kept (lvset_ne (lvset_ne HB2.out (by omega) 0 _) (by omega) 1 _) ((Kept.refl _).alloc _)
        · exact hp_kept (lvset (lvset HS2.out 0 (.string (bs u.1))) 1 (.string (bs u.2))) ((Kept.refl _).alloc _)
        · exact hp_kept (lvset_ne (lvset_ne HZ2.out (by omega) 0 _) (by omega) 1 _) ((Kept.refl _).alloc _)
        · exact Below.alloc (Below.setCell (Below.setCell HK2.out (Nat.le_succ _) _) (Nat.le_succ _) _) (by simp; have := Below.size HK2.out; omega) _
/-- is a table of a level below in a range? -/
theorem lvbelow_any {T : Nat → Lvl} {w : World} (h : Tin w T) (hl : ∀ l, l < 4 → (T l).l.length ≤ 100000) (k : Nat) (hk : k < 4) (a b : List UInt8) :
    Calls Tryz.prog 55 #[tbv T, .int .i64 (k : Nat), spv a b] w fun e w' => e = .returned (.bool (belw (fun l => (T l).l) k a b)) ∧ Kept w w' := by
  have HM := Lib.hid (fun W (hW : Kept w W) d (hd : d < 4) => lvmeeting_any (h.kept hW) d hd (hl d hd) a b)
  have HY := Lib.hid (fun d (h1 : k < d) (h2 : d < 4) (h3 : 0 < (meet (T d).l a b).length) => show belw (fun l => (T l).l) k a b = true by
    unfold belw
    rw [List.any_eq_true]
    exact ⟨d, List.mem_range.2 h2, by simp [h1, h3]⟩)
  have HN := Lib.hid (fun (h1 : ∀ d, k < d → d < 4 → (meet (T d).l a b).length = 0) => (belw_iff (t := fun l => (T l).l) (k := k) (a := a) (b := b)).2 h1)
  have HML := Lib.hid (fun d => meet_le (T d).l a b)
  have HL := Lib.hid hl
  clear h hl
  unfold tbv spv at HM
  unfold tbv spv
  generalize belw (fun l => (T l).l) k a b = B at *
  generalize (T 0).v = x0 at *
  generalize (T 1).v = x1 at *
  generalize (T 2).v = x2 at *
  generalize (T 3).v = x3 at *
  go_enter Tryz.func55, Tryz.ntmps55
  go_wp2_with fail
  go_loopw [7] (fun x wr => ∃ d : Nat, k < d ∧ d ≤ 4 ∧ x = .int .i64 d ∧ Hid (∀ j, k < j → j < d → (meet (T j).l a b).length = 0) ∧ Hid (wr.heap[w.heap.size]? = some (.cells #[x0, x1, x2, x3] 71 (0, 0))) ∧ Hid (wr.heap[w.heap.size + 1]? = some (.cells #[.string (bs a), .string (bs b)] 88 (0, 0))) ∧ Hid (Kept w wr)) (fun x _ => 4 - (intOf x).toNat)
  case atStart =>
    refine ⟨k + 1, by omega, by omega, by go_num, Lib.hid (fun j h1 h2 => by omega), ?_, ?_, ((Kept.refl _).alloc _).alloc _⟩
    · exact (malloc_old _ _ (by simp)).trans (malloc_new w _)
    · have := malloc_new (w.alloc (.cells #[x0, x1, x2, x3] 71)) (.cells #[.string (bs a), .string (bs b)] 88)
      rw [show (w.alloc (.cells #[x0, x1, x2, x3] 71)).heap.size = w.heap.size + 1 from by simp] at this
      exact this
  case round =>
    obtain ⟨d, hkd, hd, rfl, HZ, HB, HS, HK⟩ := hrel
    by_cases hd4 : d < 4
    · obtain ⟨b0, b1, b2, b3⟩ := four_cells HB.out
      have s0 := mcell HS.out 0 (v := .string (bs a)) (by rfl)
      have s1 := mcell HS.out 1 (v := .string (bs b)) (by rfl)
      have hml := HML.out d
      have hll := HL.out d hd4
      have HY2 := Lib.hid (HY.out d hkd hd4)
      have HZ2 := Lib.hid (fun h0 : (meet (T d).l a b).length = 0 => show ∀ j, k < j → j < d + 1 → (meet (T j).l a b).length = 0 from fun j h1 h2 => by
        by_cases e : j = d
        · rw [e]; exact h0
        · exact HZ.out j h1 (by omega))
      have HMD := Lib.hid (HM.out wr HK.out d hd4)
      generalize meet (T d).l a b = X at *
      go_wp2_with fail
      refine HMD.out.mono ?_
      rintro e w1 ⟨v, rfl, hown, g1⟩
      obtain ⟨A, c, rfl, hn, hMr⟩ := mts_own hown
      have HB1 := Lib.hid (hp_kept HB.out g1)
      have HS1 := Lib.hid (hp_kept HS.out g1)
      have HK1 := Lib.hid (kept_trans HK.out g1)
      clear b0 b1 b2 b3 s0 s1 hown hMr hn g1
      obtain ⟨n, hn⟩ : ∃ n, n = X.length := ⟨_, rfl⟩
      rw [← hn] at HY2 HZ2 hml ⊢
      clear hn
      by_cases h0 : n = 0
      · have HZ3 := Lib.hid (HZ2.out h0)
        subst h0
        go_wp2_with fail
        go_roundw
        case rel => exact ⟨d + 1, by omega, by omega, by go_num, HZ3, HB1, HS1, HK1⟩
        case measure => simp [intOf]; omega
      · have HY3 := Lib.hid (HY2.out (by omega))
        have d1 : decide ((0 : Int) < (n : Int)) = true := decide_eq_true (by omega)
        go_wp2_with fail
        go_ret
        exact ⟨by rw [HY3.out]; rfl, HK1.out⟩
    · obtain rfl : d = 4 := by omega
      have HB4 := Lib.hid (HN.out HZ.out)
      go_wp2_with fail
      go_ret
      exact ⟨by rw [HB4.out]; rfl, HK.out⟩
end Go.Proofs.YtnnmalpnjlnnlaaGreat
