/-
  The walk of screelaw08.MergeHas.
-/
import Derived.Test.YtpnabojfliphpaaMergeHMap
import Derived.Test.YtpnabojfliphpaaMergeLawGroups
namespace Go.Proofs.Ytpnabojfliphpaa
open Go.ChangeShapes Go.WideShapes Go.ChangeAt Go.RowKit Go.Maps
set_option linter.unusedVariables false
set_option maxRecDepth 100000
set_option maxHeartbeats 8000000

/-- the entries of i rows, and k of the next one -/
def upto (rs : List Rs) (i k : Nat) : List Mm.Ent := ((rs.take i).map Rs.l).flatten ++ (((rs[i]?).map Rs.l).getD []).take k
theorem upto_in {rs : List Rs} {i k : Nat} {r : Rs} {x : Mm.Ent} (hr : rs[i]? = some r) (hx : r.l[k]? = some x) : upto rs i (k + 1) = upto rs i k ++ [x] := by
  unfold upto
  rw [hr]
  simp only [Option.map_some, Option.getD_some]
  rw [List.take_add_one, hx, ← List.append_assoc]
  rfl
theorem upto_next {rs : List Rs} {i : Nat} {r : Rs} (hr : rs[i]? = some r) : upto rs (i + 1) 0 = upto rs i r.l.length := by
  unfold upto
  rw [List.take_add_one, hr, List.map_append, List.flatten_append]
  simp
theorem upto_start {rs : List Rs} (i : Nat) : upto rs i 0 = ((rs.take i).map Rs.l).flatten := by unfold upto; simp
theorem upto_len {rs : List Rs} {i k : Nat} : (upto rs i k).length ≤ ((rs.map Rs.l).flatten).length := by
  unfold upto
  have e : rs.map Rs.l = (rs.take i).map Rs.l ++ (rs.drop i).map Rs.l := by rw [← List.map_append, List.take_append_drop]
  rw [e, List.flatten_append, List.length_append, List.length_append]
  cases hr : rs[i]? with
  | none => simp
  | some r =>
    have hd : rs.drop i = r :: rs.drop (i + 1) := by
      obtain ⟨hi, rfl⟩ := List.getElem?_eq_some_iff.1 hr
      exact List.drop_eq_getElem_cons hi
    rw [hd]
    simp only [Option.map_some, Option.getD_some, List.map_cons, List.flatten_cons, List.length_append, List.length_take]
    omega
theorem fstep_len (D : List Mm.Ent) (x : Mm.Ent) : (Mg.fstep D x).length ≤ D.length + 1 := by
  unfold Mg.fstep
  split <;> simp
theorem fold_len : ∀ (F D : List Mm.Ent), (F.foldl Mg.fstep D).length ≤ D.length + F.length
  | [], D => by simp
  | x :: F, D => by
    have h1 := fold_len F (Mg.fstep D x)
    have h2 := fstep_len D x
    rw [List.foldl_cons, List.length_cons]; omega
theorem firsts_len (F : List Mm.Ent) : (Mg.firsts F).length ≤ F.length := by have := fold_len F []; simpa [Mg.firsts] using this
theorem fold_mem : ∀ (F D : List Mm.Ent) {y : Mm.Ent}, y ∈ F.foldl Mg.fstep D → y ∈ D ∨ y ∈ F
  | [], D, y, h => .inl h
  | x :: F, D, y, h => by
    rw [List.foldl_cons] at h
    rcases fold_mem F _ h with h | h
    · unfold Mg.fstep at h
      split at h
      · exact .inl h
      · rcases List.mem_append.1 h with h | h
        · exact .inl h
        · rw [List.mem_singleton] at h; exact .inr (by rw [h]; exact List.mem_cons_self)
    · exact .inr (List.mem_cons_of_mem _ h)
theorem firsts_mem {F : List Mm.Ent} {y : Mm.Ent} (h : y ∈ Mg.firsts F) : y ∈ F := by
  rcases fold_mem F [] h with h | h
  · simp at h
  · exact h
theorem gkept_store {w wr w8 w9 : World} {q : Nat} (h : Kept w wr) (k : Kept wr w8) (g : w8.grownBy w9 (some q)) (hq : q = w.heap.size := by rfl) : Kept w w9 := by
  have h8 := kept_trans h k
  refine Below.trans h8 ⟨g.os, g.tape, g.output, g.size, fun i hi => g.block i (by have := Below.size h8; omega) (fun e => by cases e; omega)⟩
theorem MergeHas_walk (A : Option Addr) (cap : Nat) (rs : List Rs) {w : World} (ha : Rwx w A rs) (hl : rs.length ≤ cap ∧ cap ≤ maxLen) :
    Calls Try.prog 12 #[.slice A rs.length cap] w fun e w' => e = .returned (.bool true) ∧ Kept w w' := by
  have HX := Lib.hid ha
  have hlm := hl.2
  have HL0 := Lib.hid (fun w1 (g : Kept w w1) => glarge_any cap (ha.kept g) (Nat.le_trans hl.1 hl.2))
  unfold maxLen at hlm
  have hlc := hl.1
  have HOK := Lib.hid (fun (i k : Nat) (y : Mm.Ent) (hy : y ∈ Mg.firsts (upto rs i k)) => show OkE y from by
    have h2 := firsts_mem hy
    unfold upto at h2
    rcases List.mem_append.1 h2 with h2 | h2
    · rw [List.mem_flatten] at h2
      obtain ⟨l, hl1, hl2⟩ := h2
      rw [List.mem_map] at hl1
      obtain ⟨r, hr, rfl⟩ := hl1
      exact ha.ok r (List.mem_of_mem_take hr) y hl2
    · cases hr : rs[i]? with
      | none => rw [hr] at h2; simp at h2
      | some r =>
        rw [hr] at h2
        simp only [Option.map_some, Option.getD_some] at h2
        exact ha.ok r (List.mem_of_getElem? hr) y (List.mem_of_mem_take h2))
  clear ha hl
  go_enter Try.func12, Try.ntmps12
  go_wp2_with fail
  refine (gmawake_any w).mono ?_
  rintro e w1 ⟨rfl, g1⟩
  have HL := Lib.hid (HL0.out w1 g1)
  have G1 := Lib.hid g1
  clear g1
  go_wp2_with fail
  refine HL.out.mono ?_
  rintro e w2 ⟨B, rfl, g2, hB⟩
  have G := Lib.hid (kept_trans G1.out g2)
  clear g2 HL HL0
  cases B with
  | true =>
    go_wp2_with fail
    go_ret
    exact ⟨rfl, G.out⟩
  | false =>
    obtain ⟨h30, h300⟩ := hB rfl
    have HRW := Lib.hid ((HX.out.kept G.out).rws h300)
    have H300 := Lib.hid h300
    clear hB h300
    have HALL := Lib.hid (gall_any cap HRW.out (by omega) (by have := H300.out; omega))
    cases hv : (rs.map Rs.l).all Mg.row with
    | false =>
      rw [(all_not hv).1, (all_not hv).2] at HALL
      clear hv
      go_wp2_with fail
      refine HALL.out.mono ?_
      rintro e w3 ⟨B3, c3, rfl, _, g3⟩
      go_wp2_with fail
      go_ret
      exact ⟨rfl, kept_trans G.out g3⟩
    | true =>
      rw [(all_of hv).1, (all_of hv).2] at HALL
      have HLEN := Lib.hid (Mg.firsts_tog (rs.map Rs.l))
      have HLK := Lib.hid (fun i (x : Mm.Ent) (hx : (Mg.tog (rs.map Rs.l))[i]? = some x) => show Mg.look (Mg.firsts (rs.map Rs.l).flatten) x.key x.seq = some x from by
        rw [Mg.firsts_look, ← Mg.tog_look]; exact Mg.look_mem (Mg.tog_row _) (List.mem_of_getElem? hx))
      generalize Mg.tog (rs.map Rs.l) = T at *
      clear hv
      go_wp2_with fail
      refine HALL.out.mono ?_
      rintro e w3 ⟨B3, c3, rfl, hel3, g3⟩
      have G3 := Lib.hid g3; have HE3 := Lib.hid hel3.els
      clear g3 hel3 HALL
      have hmk : ∀ W : World, (Instr.makeMap 70 none).run Try.prog W = .ok (.map (some W.heap.size)) (W.alloc (.map #[] 0)) := fun _ => rfl
      go_wp2_with fail
      clear hmk
      have hIs0 := hIs_new w3
      have HI0 := Lib.hid (show HIs (w3.alloc (.map #[] 0)) w3.heap.size (Mg.firsts (upto rs 0 0)) from hIs0)
      clear hIs0
      go_loopw [27] (fun t wr => ∃ i : Nat, i ≤ rs.length ∧ t = .int .i64 (i : Nat) ∧ Hid (HIs wr w3.heap.size (Mg.firsts (upto rs i 0))) ∧ Hid (Kept w3 wr)) (fun t _ => rs.length - (intOf t).toNat)
      case atStart => exact ⟨0, Nat.zero_le _, rfl, HI0, Lib.hid ((Kept.refl _).alloc _)⟩
      case round =>
        obtain ⟨i, hi, rfl, HQ, HK⟩ := hrel
        by_cases hlt : i < rs.length
        · obtain ⟨r, hr⟩ : ∃ r, rs[i]? = some r := ⟨_, List.getElem?_eq_getElem hlt⟩
          have hrw := (HRW.out.kept (kept_trans G3.out HK.out))
          obtain ⟨b, o, rfl, hb, c0⟩ := hrw.at_ i r hr
          have hmr := List.mem_of_getElem? hr
          have hfew := Nat.le_trans (HRW.out.cap r hmr) (HRW.out.most r hmr)
          have HRE := Lib.hid ((HRW.out.kept G3.out).els r hmr)
          have HUI := Lib.hid (fun k x (hx : r.l[k]? = some x) => show Mg.firsts (upto rs i (k + 1)) = Mg.fstep (Mg.firsts (upto rs i k)) x from by rw [upto_in hr hx, Mg.firsts_snoc])
          have HUN := Lib.hid (upto_next hr)
          have HRO := Lib.hid (fun (x : Mm.Ent) (hx : x ∈ r.l) => show OkE x from HX.out.ok r hmr x hx)
          unfold maxLen at hfew
          clear hr hmr hrw
          rename World => wo
          go_wp2_with fail
          go_loopw [35] (fun t wi => ∃ k : Nat, k ≤ r.l.length ∧ t = .int .i64 (k : Nat) ∧ Hid (HIs wi w3.heap.size (Mg.firsts (upto rs i k))) ∧ Hid (Kept w3 wi)) (fun t _ => r.l.length - (intOf t).toNat)
          case atStart => exact ⟨0, Nat.zero_le _, rfl, HQ, HK⟩
          case round =>
            obtain ⟨k, hk, rfl, HQ2, HK2⟩ := hrel
            by_cases hlt2 : k < r.l.length
            · obtain ⟨x, hx⟩ : ∃ x, r.l[k]? = some x := ⟨_, List.getElem?_eq_getElem hlt2⟩
              obtain ⟨b2, o2, hA2, hb2, p0, p1, p2, p3⟩ := (HRE.out.kept HK2.out) k x hx
              rw [hA2] at c0
              have hox := HRO.out x (List.mem_of_getElem? hx)
              have HOX := Lib.hid hox
              have HST := Lib.hid (HUI.out k x hx)
              have HOL := Lib.hid (HOK.out i k)
              have hfl : (Mg.firsts (upto rs i k)).length ≤ 300 := Nat.le_trans (firsts_len _) (Nat.le_trans upto_len H300.out)
              have HFL := Lib.hid hfl
              have HA2 := Lib.hid hA2
              clear hx hox hfl hA2
              generalize Mg.firsts (upto rs i k) = L at *
              have k7 : Kept wr (wr.alloc (.cells #[.string (bs x.key), .int .u64 (x.seq : Nat), .bool x.del, .string (bs x.val)] 35)) := (Kept.refl _).alloc _
              have rx := malloc_new wr (.cells #[.string (bs x.key), .int .u64 (x.seq : Nat), .bool x.del, .string (bs x.val)] 35)
              rw [HA2.out]
              go_upto_region 15 with fail
              generalize wr.alloc (.cells #[.string (bs x.key), .int .u64 (x.seq : Nat), .bool x.del, .string (bs x.val)] 35) = w7 at *
              have u0 := mcell (v := .string (bs x.key)) rx 0 rfl; have u1 := mcell (v := .int .u64 (x.seq : Nat)) rx 1 rfl; have u2 := mcell (v := .bool x.del) rx 2 rfl; have u3 := mcell (v := .string (bs x.val)) rx 3 rfl
              have hrun := (HQ2.out.kept k7).look_ok HOL.out ⟨HOX.out.1, HOX.out.2.2⟩
              have HRX := Lib.hid rx
              have HK7 := Lib.hid k7
              clear rx k7 p0 p1 p2 p3
              cases hl : Mg.look L x.key x.seq with
              | some z =>
                rw [hl] at hrun
                simp only [Option.getD_some, Option.isSome_some] at hrun
                unfold idV entV at hrun
                have HF := Lib.hid (show Mg.fstep L x = L by unfold Mg.fstep; rw [hl]; rfl)
                clear hl
                go_wp2_with fail
                go_roundw
                case rel => exact ⟨k + 1, by omega, by go_num, Lib.hid (by rw [HST.out, HF.out]; exact (HQ2.out.kept HK7.out).kept ((Kept.refl _).alloc _)), Lib.hid (kept_trans HK2.out (kept_trans HK7.out ((Kept.refl _).alloc _)))⟩
                case measure => simp [intOf]; omega
              | none =>
                rw [hl] at hrun
                simp only [Option.getD_none, Option.isSome_none] at hrun
                obtain ⟨z, hz⟩ : ∃ z, z = Mm.zent := ⟨_, rfl⟩
                rw [← hz] at hrun
                unfold idV entV at hrun
                have HF := Lib.hid (show Mg.fstep L x = L ++ [x] by unfold Mg.fstep; rw [hl]; rfl)
                have HLN := Lib.hid hl
                clear hl hz
                go_upto_region 17 with fail
                have k8 : Kept w7 (w7.alloc (.cells #[.string (bs z.key), .int .u64 (z.seq : Nat), .bool z.del, .string (bs z.val)] 35)) := (Kept.refl _).alloc _
                generalize w7.alloc (.cells #[.string (bs z.key), .int .u64 (z.seq : Nat), .bool z.del, .string (bs z.val)] 35) = w8 at *
                have rx8 := (Below.block k8 _ (mheap_lt HRX.out)).trans HRX.out
                have v0 := mcell (v := .string (bs x.key)) rx8 0 rfl; have v1 := mcell (v := .int .u64 (x.seq : Nat)) rx8 1 rfl; have v2 := mcell (v := .bool x.del) rx8 2 rfl; have v3 := mcell (v := .string (bs x.val)) rx8 3 rfl
                obtain ⟨w9, hst, sq9, g9, z9⟩ := ((HQ2.out.kept HK7.out).kept k8).store (by have := HFL.out; omega) HOL.out x HOX.out HLN.out
                have HQ9 := Lib.hid (show HIs w9 w3.heap.size (Mg.firsts (upto rs i (k + 1))) by rw [HST.out, HF.out]; exact sq9)
                have K9 := Lib.hid (gkept_store (w := w3) HK2.out (kept_trans HK7.out k8) g9)
                unfold idV entV at hst
                clear hrun u0 u1 u2 u3 rx8 sq9 g9 k8
                go_wp2_with fail
                go_roundw
                case rel => exact ⟨k + 1, by omega, by go_num, HQ9, K9⟩
                case measure => simp [intOf]; omega
            · have e : k = r.l.length := by omega
              subst e
              have HQ3 := Lib.hid (show HIs wr w3.heap.size (Mg.firsts (upto rs (i + 1) 0)) by rw [HUN.out]; exact HQ2.out)
              go_wp2_with fail
              go_roundw
              case rel => exact ⟨i + 1, by omega, by go_num, HQ3, HK2⟩
              case measure => simp [intOf]; omega
        · have e : i = rs.length := by omega
          subst e
          have hq := HQ.out
          rw [upto_start, List.take_length] at hq
          have HQ1 := Lib.hid hq
          have HOL := Lib.hid (HOK.out rs.length 0)
          rw [upto_start, List.take_length] at HOL
          have HTL := Lib.hid (show T.length ≤ 300 by have := HLEN.out; have := firsts_len (rs.map Rs.l).flatten; have := H300.out; omega)
          have hln := fun ty => hq.len ty
          rw [HLEN.out] at hln
          clear hq HQ
          generalize Mg.firsts (rs.map Rs.l).flatten = L at *
          have hT := HTL.out
          rename World => wo
          go_wp2_with fail
          go_loopw [67] (fun t wi => ∃ i : Nat, i ≤ T.length ∧ t = .int .i64 (i : Nat) ∧ Hid (Kept wo wi)) (fun t _ => T.length - (intOf t).toNat)
          case atStart => exact ⟨0, Nat.zero_le _, rfl, Lib.hid (Kept.refl _)⟩
          case round =>
            obtain ⟨k, hk, rfl, HK2⟩ := hrel
            by_cases hlt2 : k < T.length
            · obtain ⟨x, hx⟩ : ∃ x, T[k]? = some x := ⟨_, List.getElem?_eq_getElem hlt2⟩
              obtain ⟨b2, o2, rfl, hb2, p0, p1, p2, p3⟩ := (HE3.out.kept (kept_trans HK.out HK2.out)) k x hx
              have HLX := Lib.hid (HLK.out k x hx)
              have k7 : Kept wr (wr.alloc (.cells #[.string (bs x.key), .int .u64 (x.seq : Nat), .bool x.del, .string (bs x.val)] 35)) := (Kept.refl _).alloc _
              have rx := malloc_new wr (.cells #[.string (bs x.key), .int .u64 (x.seq : Nat), .bool x.del, .string (bs x.val)] 35)
              clear hx
              go_upto_region 25 with fail
              generalize wr.alloc (.cells #[.string (bs x.key), .int .u64 (x.seq : Nat), .bool x.del, .string (bs x.val)] 35) = w7 at *
              have u0 := mcell (v := .string (bs x.key)) rx 0 rfl; have u1 := mcell (v := .int .u64 (x.seq : Nat)) rx 1 rfl; have u2 := mcell (v := .bool x.del) rx 2 rfl; have u3 := mcell (v := .string (bs x.val)) rx 3 rfl
              have hrun := fun n => ((HQ1.out.kept (kept_trans HK2.out k7)).kept (kept_drewN w7 n)).look HOL.out HLX.out
              unfold idV entV at hrun
              have HK7 := Lib.hid (kept_trans HK2.out k7)
              clear rx k7 p0 p1 p2 p3 hln
              go_quiet (fail)
              go_wp2_with fail
              go_roundw
              case rel => exact ⟨k + 1, by omega, by go_num, Lib.hid (kept_trans HK7.out (kept_drewN _ _))⟩
              case measure => simp [intOf]; omega
            · have e : k = T.length := by omega
              subst e
              go_wp2_with fail
              go_ret
              exact ⟨rfl, kept_trans G.out (kept_trans G3.out (kept_trans HK.out HK2.out))⟩
end Go.Proofs.Ytpnabojfliphpaa
