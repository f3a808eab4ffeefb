/-
  The document's own Get of layer 8: the newest entry of a key up to a number.
-/
import Derived.Test.YtpbhbgoaaephgaaMergeRefAll
namespace Go.Proofs.Ytpbhbgoaaephgaa
open Go.ChangeShapes Go.WideShapes Go.ChangeAt Go.RowKit
set_option linter.unusedVariables false
set_option maxRecDepth 100000
set_option maxHeartbeats 4000000

/-- one entry more -/
def gof (k : List UInt8) (s : Nat) (acc : Option Mm.Ent) (x : Mm.Ent) : Option Mm.Ent := if Mm.mt k s x then Mg.better acc (some x) else acc
theorem gof_keep {k : List UInt8} {s : Nat} {b : Mm.Ent} : ∀ {l : List Mm.Ent}, (∀ y ∈ l, Mm.mt k s y = true → y.seq ≤ b.seq) → l.foldl (gof k s) (some b) = some b
  | [], _ => rfl
  | y :: l, h => by
    have e : gof k s (some b) y = some b := by
      unfold gof
      cases hv : Mm.mt k s y with
      | true =>
        have := h y List.mem_cons_self hv
        rw [if_pos rfl]
        unfold Mg.better
        simp only
        rw [if_neg (by omega)]
      | false => rw [if_neg (by decide)]
    rw [List.foldl_cons, e]
    exact gof_keep fun z hz => h z (List.mem_cons_of_mem _ hz)
theorem gof_row {k : List UInt8} {s : Nat} : ∀ {l : List Mm.Ent}, Mg.Rw l → ∀ acc, l.foldl (gof k s) acc = Mg.better acc (l.find? (Mm.mt k s))
  | [], _, acc => rfl
  | x :: l, h, acc => by
    obtain ⟨h1, h2⟩ := List.pairwise_cons.1 h
    rw [List.foldl_cons]
    cases hv : Mm.mt k s x with
    | false =>
      rw [List.find?_cons_of_neg (by rw [hv]; decide), show gof k s acc x = acc by unfold gof; rw [hv]; rfl]
      exact gof_row h2 acc
    | true =>
      rw [List.find?_cons_of_pos hv, show gof k s acc x = Mg.better acc (some x) by unfold gof; rw [hv]; rfl]
      have hk : ∀ b : Mm.Ent, x.seq ≤ b.seq → l.foldl (gof k s) (some b) = some b := fun b hb => gof_keep fun y hy hm => by
        obtain ⟨e1, e2⟩ := Mm.mt_iff.1 hv
        obtain ⟨e3, e4⟩ := Mm.mt_iff.1 hm
        rcases Mg.ab_iff.1 (h1 y hy) with q | ⟨_, q⟩
        · rw [e1, e3] at q; exact absurd q (Mm.lt_irrefl _)
        · omega
      cases acc with
      | none => exact hk x (Nat.le_refl _)
      | some b =>
        unfold Mg.better
        simp only
        split
        · exact hk x (Nat.le_refl _)
        · exact hk b (by omega)
theorem gof_step {k : List UInt8} {s : Nat} {l : List Mm.Ent} {j : Nat} {x : Mm.Ent} (h : l[j]? = some x) (acc : Option Mm.Ent) : (l.take (j + 1)).foldl (gof k s) acc = gof k s ((l.take j).foldl (gof k s) acc) x := by
  rw [List.take_add_one, h, List.foldl_append]; rfl
theorem rgget_any {w : World} {A : Option Addr} {rs : List Rs} (cr : Nat) (H : Rws w A rs) (hn : rs.length ≤ 1000) (k : List UInt8) (s : Nat) (hs : s < 18446744073709551616) :
    Calls Try.prog 46 #[.slice A rs.length cr, .string (bs k), .int .u64 (s : Nat)] w fun e w' => e = .returned (optV (Mg.got (rs.map Rs.l) k s)) ∧ Kept w w' := by
  have HR := Lib.hid H
  have G0 := Lib.hid (show Kept w ((w.alloc (.cells #[.string ⟨#[]⟩, .int .u64 0, .bool false, .string ⟨#[]⟩] 51)).alloc (.cells #[.string ⟨#[]⟩, .int .u64 0, .bool false, .string ⟨#[]⟩] 51)) from ((Kept.refl w).alloc _).alloc _)
  have R0 := Lib.hid (show ((w.alloc (.cells #[.string ⟨#[]⟩, .int .u64 0, .bool false, .string ⟨#[]⟩] 51)).alloc (.cells #[.string ⟨#[]⟩, .int .u64 0, .bool false, .string ⟨#[]⟩] 51)).heap[w.heap.size]? = some (.cells #[.string ⟨#[]⟩, .int .u64 0, .bool false, .string ⟨#[]⟩] 51) from (malloc_old _ _ (by simp only [malloc_size]; omega)).trans (malloc_new w _))
  have R1 := Lib.hid (show ((w.alloc (.cells #[.string ⟨#[]⟩, .int .u64 0, .bool false, .string ⟨#[]⟩] 51)).alloc (.cells #[.string ⟨#[]⟩, .int .u64 0, .bool false, .string ⟨#[]⟩] 51)).heap[w.heap.size + 1]? = some (.cells #[.string ⟨#[]⟩, .int .u64 0, .bool false, .string ⟨#[]⟩] 51) by have := malloc_new (w.alloc (.cells #[.string ⟨#[]⟩, .int .u64 0, .bool false, .string ⟨#[]⟩] 51)) (.cells #[.string ⟨#[]⟩, .int .u64 0, .bool false, .string ⟨#[]⟩] 51); rwa [malloc_size] at this)
  clear H
  go_enter Try.func46, Try.ntmps46
  go_wp2_with fail
  generalize ((w.alloc (.cells #[.string ⟨#[]⟩, .int .u64 0, .bool false, .string ⟨#[]⟩] 51)).alloc (.cells #[.string ⟨#[]⟩, .int .u64 0, .bool false, .string ⟨#[]⟩] 51)) = w2 at *
  go_loopw [9, 10] (fun f t wr => ∃ (i : Nat) (acc : Option Mm.Ent), i ≤ rs.length ∧ t = .int .i64 (i : Nat) ∧ f = .bool acc.isSome ∧ Hid (acc = Mg.got ((rs.map Rs.l).take i) k s) ∧ Hid (wr.heap[w.heap.size]? = some (.cells #[.string ⟨#[]⟩, .int .u64 0, .bool false, .string ⟨#[]⟩] 51)) ∧ Hid (wr.heap[w.heap.size + 1]? = some (entO (acc.getD Mm.zent))) ∧ Hid (Kept w wr)) (fun _ t _ => rs.length - (intOf t).toNat)
  case atStart => exact ⟨0, none, Nat.zero_le _, rfl, rfl, Lib.hid rfl, R0, R1, G0⟩
  case round =>
    clear R0 R1 G0
    obtain ⟨i, acc, hi, rfl, rfl, HA, HZ, HB, HK⟩ := hrel
    by_cases hlt : i < rs.length
    · obtain ⟨r, hr⟩ : ∃ r, rs[i]? = some r := ⟨_, List.getElem?_eq_getElem hlt⟩
      have hm := List.mem_of_getElem? hr
      have hri : (rs.map Rs.l)[i]? = some r.l := by rw [List.getElem?_map, hr]; rfl
      obtain ⟨b, o, rfl, hb, c0⟩ := (HR.out.kept HK.out).at_ i r hr
      have hels := (HR.out.els r hm).kept HK.out
      have hfew := HR.out.few r hm
      have hrow := grrow_any r.c hels hfew
      have HRI := Lib.hid hr
      have HMEM := Lib.hid hm
      cases hv : Mg.row r.l with
      | false =>
        have HNO := Lib.hid (HA.out.trans (got_not hri hv k s).symm)
        rw [hv] at hrow
        have HRW := Lib.hid hrow
        clear hrow hv hm hr hri hels
        go_wp2_with fail
        refine HRW.out.mono ?_
        rintro e w1 ⟨rfl, k1⟩
        have HK1 := Lib.hid (kept_trans HK.out k1)
        have HZ1 := Lib.hid ((Below.block k1 _ (mheap_lt HZ.out)).trans HZ.out)
        have HB1 := Lib.hid ((Below.block k1 _ (mheap_lt HB.out)).trans HB.out)
        clear k1
        go_wp2_with fail
        go_roundw
        case rel => exact ⟨i + 1, acc, by omega, by go_num, rfl, HNO, HZ1, HB1, HK1⟩
        case measure => simp [intOf]; omega
      | true =>
        have HYES := Lib.hid ((got_yes hri hv k s).trans (gof_row (Mg.row_iff.1 hv) _).symm)
        rw [hv] at hrow
        have HRW := Lib.hid hrow
        clear hrow hv hm hr hri hels
        go_wp2_with fail
        refine HRW.out.mono ?_
        rintro e w1 ⟨rfl, k1⟩
        have HK1 := Lib.hid (kept_trans HK.out k1)
        have HZ1 := Lib.hid ((Below.block k1 _ (mheap_lt HZ.out)).trans HZ.out)
        have HB1 := Lib.hid ((Below.block k1 _ (mheap_lt HB.out)).trans HB.out)
        clear k1
        go_wp2_with fail
        go_loopw [9, 11] (fun f t wr => ∃ (j : Nat) (acc : Option Mm.Ent), j ≤ r.l.length ∧ t = .int .i64 (j : Nat) ∧ f = .bool acc.isSome ∧ Hid (acc = (r.l.take j).foldl (gof k s) (Mg.got ((rs.map Rs.l).take i) k s)) ∧ Hid (wr.heap[w.heap.size]? = some (.cells #[.string ⟨#[]⟩, .int .u64 0, .bool false, .string ⟨#[]⟩] 51)) ∧ Hid (wr.heap[w.heap.size + 1]? = some (entO (acc.getD Mm.zent))) ∧ Hid (Kept w wr)) (fun _ t _ => r.l.length - (intOf t).toNat)
        case atStart => exact ⟨0, acc, Nat.zero_le _, rfl, rfl, Lib.hid (by rw [HA.out]; rfl), HZ1, HB1, HK1⟩
        case round =>
          clear HA HZ HB HK HZ1 HB1 HK1 c0 hb
          obtain ⟨j, acc, hj, rfl, rfl, HAI, HZ, HB, HK⟩ := hrel
          obtain ⟨b', o', e, hb, c0⟩ := (HR.out.kept HK.out).at_ i r HRI.out
          cases e
          by_cases hj2 : j < r.l.length
          · obtain ⟨x, hx⟩ : ∃ x, r.l[j]? = some x := ⟨_, List.getElem?_eq_getElem hj2⟩
            obtain ⟨b2, o2, hA2, hb2, p0, p1, p2, p3⟩ := ((HR.out.els r HMEM.out).kept HK.out) j x hx
            rw [hA2] at c0
            have HGS := Lib.hid (gof_step (k := k) (s := s) hx (Mg.got ((rs.map Rs.l).take i) k s))
            have n1 := mbs_eq x.key k
            have k4 : Kept wr (wr.alloc (.cells #[.string (bs x.key), .int .u64 (x.seq : Nat), .bool x.del, .string (bs x.val)] 51)) := (Kept.refl wr).alloc _
            have rx := malloc_new wr (.cells #[.string (bs x.key), .int .u64 (x.seq : Nat), .bool x.del, .string (bs x.val)] 51)
            have HZ4 := Lib.hid ((Below.block k4 _ (mheap_lt HZ.out)).trans HZ.out)
            have HB4 := Lib.hid ((Below.block k4 _ (mheap_lt HB.out)).trans HB.out)
            have HK4 := Lib.hid (kept_trans HK.out k4)
            clear hx hA2
            go_upto_region 11 with fail
            generalize wr.alloc (.cells #[.string (bs x.key), .int .u64 (x.seq : Nat), .bool x.del, .string (bs x.val)] 51) = w4 at *
            have x0 := mcell (v := .string (bs x.key)) rx 0 rfl; have x1 := mcell (v := .int .u64 (x.seq : Nat)) rx 1 rfl; have x2 := mcell (v := .bool x.del) rx 2 rfl; have x3 := mcell (v := .string (bs x.val)) rx 3 rfl
            have hbx := mheap_lt rx
            have rb := HB4.out
            have y1 := mcell (v := .int .u64 ((acc.getD Mm.zent).seq : Nat)) rb 1 rfl
            have hbo := mheap_lt rb
            have f0 := mfrozen rb 0; have f1 := mfrozen rb 1; have f2 := mfrozen rb 2; have f3 := mfrozen rb 3
            have y0 := mcell (v := .string (bs (acc.getD Mm.zent).key)) rb 0 rfl; have y2 := mcell (v := .bool (acc.getD Mm.zent).del) rb 2 rfl; have y3 := mcell (v := .string (bs (acc.getD Mm.zent).val)) rb 3 rfl
            clear k4 rx c0 p0 p1 p2 p3 hb hb2
            by_cases e1 : x.key = k
            · rw [decide_eq_true e1] at n1
              by_cases e2 : x.seq ≤ s
              · have d1 : decide ((x.seq : Int) ≤ (s : Int)) = true := decide_eq_true (by omega)
                have HMT := Lib.hid (show Mm.mt k s x = true from Mm.mt_iff.2 ⟨e1, e2⟩)
                clear e1
                cases acc with
                | none =>
                  have HN := Lib.hid (show some x = (r.l.take (j + 1)).foldl (gof k s) (Mg.got ((rs.map Rs.l).take i) k s) by rw [HGS.out, ← HAI.out]; unfold gof; rw [if_pos HMT.out]; rfl)
                  simp only [Option.isSome_none, Option.getD_none] at y1 rb ⊢
                  go_wp2_with fail
                  have S4 := set4 rb x
                  generalize ((((w4.setCell ⟨w.heap.size + 1, 0, none⟩ (.string (bs x.key))).setCell ⟨w.heap.size + 1, 1, none⟩ (.int .u64 (x.seq : Nat))).setCell ⟨w.heap.size + 1, 2, none⟩ (.bool x.del)).setCell ⟨w.heap.size + 1, 3, none⟩ (.string (bs x.val))) = w5 at *
                  have HB5 := Lib.hid (show w5.heap[w.heap.size + 1]? = some (entO ((some x).getD Mm.zent)) from S4.1)
                  have HZ5 := Lib.hid ((S4.2.1 _ (by omega)).trans HZ4.out)
                  have HK5 := Lib.hid (S4.2.2 w HK4.out (by omega))
                  clear S4
                  go_roundw
                  case rel => exact ⟨j + 1, some x, by omega, by go_num, rfl, HN, HZ5, HB5, HK5⟩
                  case measure => simp [intOf]; omega
                | some bb =>
                  simp only [Option.isSome_some, Option.getD_some] at y1 rb ⊢
                  by_cases hlt2 : bb.seq < x.seq
                  · have HN := Lib.hid (show some x = (r.l.take (j + 1)).foldl (gof k s) (Mg.got ((rs.map Rs.l).take i) k s) by rw [HGS.out, ← HAI.out]; unfold gof; rw [if_pos HMT.out]; unfold Mg.better; simp only; rw [if_pos hlt2])
                    have d2 : decide ((bb.seq : Int) < (x.seq : Int)) = true := decide_eq_true (by omega)
                    go_wp2_with fail
                    have S4 := set4 rb x
                    generalize ((((w4.setCell ⟨w.heap.size + 1, 0, none⟩ (.string (bs x.key))).setCell ⟨w.heap.size + 1, 1, none⟩ (.int .u64 (x.seq : Nat))).setCell ⟨w.heap.size + 1, 2, none⟩ (.bool x.del)).setCell ⟨w.heap.size + 1, 3, none⟩ (.string (bs x.val))) = w5 at *
                    have HB5 := Lib.hid (show w5.heap[w.heap.size + 1]? = some (entO ((some x).getD Mm.zent)) from S4.1)
                    have HZ5 := Lib.hid ((S4.2.1 _ (by omega)).trans HZ4.out)
                    have HK5 := Lib.hid (S4.2.2 w HK4.out (by omega))
                    clear S4
                    go_roundw
                    case rel => exact ⟨j + 1, some x, by omega, by go_num, rfl, HN, HZ5, HB5, HK5⟩
                    case measure => simp [intOf]; omega
                  · have HN := Lib.hid (show some bb = (r.l.take (j + 1)).foldl (gof k s) (Mg.got ((rs.map Rs.l).take i) k s) by rw [HGS.out, ← HAI.out]; unfold gof; rw [if_pos HMT.out]; unfold Mg.better; simp only; rw [if_neg hlt2])
                    have d2 : decide ((bb.seq : Int) < (x.seq : Int)) = false := decide_eq_false (by omega)
                    have d3 : x.seq ≤ bb.seq := by omega
                    go_wp2_with fail
                    go_roundw
                    case rel => exact ⟨j + 1, some bb, by omega, by go_num, rfl, HN, HZ4, HB4, HK4⟩
                    case measure => simp [intOf]; omega
              · have d1 : decide ((x.seq : Int) ≤ (s : Int)) = false := decide_eq_false (by omega)
                have d1' : s < x.seq := by omega
                have HN := Lib.hid (show acc = (r.l.take (j + 1)).foldl (gof k s) (Mg.got ((rs.map Rs.l).take i) k s) by rw [HGS.out, ← HAI.out]; unfold gof; rw [if_neg (by rw [Mm.mt_iff]; exact fun e => e2 e.2)])
                clear e1 e2
                go_wp2_with fail
                go_roundw
                case rel => exact ⟨j + 1, acc, by omega, by go_num, rfl, HN, HZ4, HB4, HK4⟩
                case measure => simp [intOf]; omega
            · rw [decide_eq_false e1] at n1
              have HN := Lib.hid (show acc = (r.l.take (j + 1)).foldl (gof k s) (Mg.got ((rs.map Rs.l).take i) k s) by rw [HGS.out, ← HAI.out]; unfold gof; rw [if_neg (by rw [Mm.mt_iff]; exact fun e => e1 e.1)])
              clear e1
              go_wp2_with fail
              go_roundw
              case rel => exact ⟨j + 1, acc, by omega, by go_num, rfl, HN, HZ4, HB4, HK4⟩
              case measure => simp [intOf]; omega
          · have e : j = r.l.length := by omega
            subst e
            have HAN := Lib.hid (show acc = Mg.got ((rs.map Rs.l).take (i + 1)) k s by rw [HYES.out, HAI.out, List.take_length])
            go_wp2_with fail
            go_roundw
            case rel => exact ⟨i + 1, acc, by omega, by go_num, rfl, HAN, HZ, HB, HK⟩
            case measure => simp [intOf]; omega
    · have e : i = rs.length := by omega
      subst e
      have ha := HA.out
      rw [List.take_of_length_le (by simp)] at ha
      have HA2 := Lib.hid ha
      have rb := HB.out
      unfold entO at rb
      have rz := HZ.out
      have y0 := mcell (v := .string (bs (acc.getD Mm.zent).key)) rb 0 rfl; have y1 := mcell (v := .int .u64 ((acc.getD Mm.zent).seq : Nat)) rb 1 rfl; have y2 := mcell (v := .bool (acc.getD Mm.zent).del) rb 2 rfl; have y3 := mcell (v := .string (bs (acc.getD Mm.zent).val)) rb 3 rfl
      have z0 := mcell (v := .string ⟨#[]⟩) rz 0 rfl; have z1 := mcell (v := .int .u64 0) rz 1 rfl; have z2 := mcell (v := .bool false) rz 2 rfl; have z3 := mcell (v := .string ⟨#[]⟩) rz 3 rfl
      have f0 := mfrozen rz 0; have f1 := mfrozen rz 1; have f2 := mfrozen rz 2; have f3 := mfrozen rz 3
      clear ha rb rz
      generalize hbs : acc.isSome = bS at *
      have HBS := Lib.hid hbs
      generalize hy : acc.getD Mm.zent = y at *
      have HY := Lib.hid hy
      clear hbs hy
      go_wp2_with fail
      try simp only [Exit.inBlock, Exit.then]
      refine bodyPost_ret (v := .tuple #[entV y, .bool bS]) (by simp [results, Try.results46, go_sem, entV, z0, z1, z2, z3]) rfl ⟨by rw [← HA2.out, ← HY.out, ← HBS.out]; rfl, ?_⟩
      exact kept_own (kept_own (kept_own (kept_own HK.out (Nat.le_refl _)) (Nat.le_refl _)) (Nat.le_refl _)) (Nat.le_refl _)
end Go.Proofs.Ytpbhbgoaaephgaa
