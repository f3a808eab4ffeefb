/-
  The walk of screelaw08.MergeGets.
-/
import Derived.Test.YtikknoojgeeflaaMergeLawGroups
namespace Go.Proofs.Ytikknoojgeeflaa
open Go.ChangeShapes Go.WideShapes Go.ChangeAt Go.RowKit
set_option linter.unusedVariables false
set_option maxRecDepth 100000
set_option maxHeartbeats 4000000

/-- the newest entry of a key up to a number, the first one of those that are the same -/
def IsG (l : List Mm.Ent) (k : List UInt8) (s : Nat) : Option Mm.Ent → Prop
  | none => ∀ x ∈ l, Mm.mt k s x = false
  | some z => Mm.mt k s z = true ∧ (∀ x ∈ l, Mm.mt k s x = true → x.seq ≤ z.seq) ∧ Mg.look l z.key z.seq = some z
theorem IsG.uniq {l m : List Mm.Ent} {k : List UInt8} {s : Nat} {a b : Option Mm.Ent} (hl : ∀ k s, Mg.look l k s = Mg.look m k s) (h1 : IsG l k s a) (h2 : IsG m k s b) : a = b := by
  cases a with
  | none =>
    cases b with
    | none => rfl
    | some z =>
      obtain ⟨q1, q2, q3⟩ := h2
      rw [← hl] at q3
      have := h1 z (Mg.look_some q3).1
      rw [q1] at this; cases this
  | some y =>
    obtain ⟨p1, p2, p3⟩ := h1
    cases b with
    | none =>
      rw [hl] at p3
      have := h2 y (Mg.look_some p3).1
      rw [p1] at this; cases this
    | some z =>
      obtain ⟨q1, q2, q3⟩ := h2
      have p3' := p3; have q3' := q3
      rw [hl] at p3; rw [← hl] at q3
      have e1 := q2 y (Mg.look_some p3).1 p1
      have e2 := p2 z (Mg.look_some q3).1 q1
      have e : y.seq = z.seq := Nat.le_antisymm e1 e2
      have ek : y.key = z.key := (Mm.mt_iff.1 p1).1.trans (Mm.mt_iff.1 q1).1.symm
      rw [ek, e, q3'] at p3
      exact p3.symm
theorem IsG.row {r : List Mm.Ent} (h : Mg.Rw r) (k : List UInt8) (s : Nat) : IsG r k s (r.find? (Mm.mt k s)) := by
  cases hf : r.find? (Mm.mt k s) with
  | none => exact fun x hx => by have := List.find?_eq_none.1 hf x hx; simpa using this
  | some z =>
    have hm := List.find?_some hf
    have hz := List.mem_of_find?_eq_some hf
    refine ⟨hm, fun x hx hxm => ?_, Mg.look_mem h hz⟩
    obtain ⟨_, u1, u2, e, hn⟩ := List.find?_eq_some_iff_append.1 hf
    rw [e, List.mem_append, List.mem_cons] at hx
    rcases hx with hx | rfl | hx
    · have := hn x hx; rw [hxm] at this; cases this
    · exact Nat.le_refl _
    · unfold Mg.Rw at h
      rw [e, List.pairwise_append] at h
      have := (List.pairwise_cons.1 h.2.1).1 x hx
      rcases Mg.ab_iff.1 this with q | ⟨_, q⟩
      · rw [(Mm.mt_iff.1 hm).1, (Mm.mt_iff.1 hxm).1] at q; exact absurd q (Mm.lt_irrefl _)
      · omega
theorem look_mt {l : List Mm.Ent} {k : List UInt8} {s : Nat} {z : Mm.Ent} (hz : Mm.mt k s z = true) (h : ∀ x ∈ l, Mm.mt k s x = true → x.seq ≠ z.seq) : Mg.look l z.key z.seq = none := Mg.look_not fun x hx e1 e2 => by
  obtain ⟨q1, q2⟩ := Mm.mt_iff.1 hz
  exact h x hx (Mm.mt_iff.2 ⟨e1.trans q1, by omega⟩) e2
theorem IsG.step {a r : List Mm.Ent} {k : List UInt8} {s : Nat} {o f : Option Mm.Ent} (h : IsG a k s o) (hr : IsG r k s f) : IsG (a ++ r) k s (Mg.better o f) := by
  cases f with
  | none =>
    cases o with
    | none => exact fun x hx => (List.mem_append.1 hx).elim (h x) (hr x)
    | some b =>
      obtain ⟨p1, p2, p3⟩ := h
      refine ⟨p1, fun x hx hxm => ?_, by rw [Mg.look_app, p3]; rfl⟩
      rcases List.mem_append.1 hx with hx | hx
      · exact p2 x hx hxm
      · have := hr x hx; rw [hxm] at this; cases this
  | some z =>
    obtain ⟨q1, q2, q3⟩ := hr
    cases o with
    | none =>
      refine ⟨q1, fun x hx hxm => ?_, ?_⟩
      · rcases List.mem_append.1 hx with hx | hx
        · have := h x hx; rw [hxm] at this; cases this
        · exact q2 x hx hxm
      · rw [Mg.look_app, look_mt q1 (fun x hx hxm => by have := h x hx; rw [hxm] at this; cases this), q3]; rfl
    | some b =>
      obtain ⟨p1, p2, p3⟩ := h
      unfold Mg.better
      simp only
      by_cases hlt : b.seq < z.seq
      · rw [if_pos hlt]
        refine ⟨q1, fun x hx hxm => ?_, ?_⟩
        · rcases List.mem_append.1 hx with hx | hx
          · have := p2 x hx hxm; omega
          · exact q2 x hx hxm
        · rw [Mg.look_app, look_mt q1 (fun x hx hxm => by have := p2 x hx hxm; omega), q3]; rfl
      · rw [if_neg hlt]
        refine ⟨p1, fun x hx hxm => ?_, by rw [Mg.look_app, p3]; rfl⟩
        rcases List.mem_append.1 hx with hx | hx
        · exact p2 x hx hxm
        · have := q2 x hx hxm; omega
theorem got_isG {rows : List (List Mm.Ent)} (h : ∀ r ∈ rows, Mg.row r = true) (k : List UInt8) (s : Nat) : ∀ i, i ≤ rows.length → IsG (rows.take i).flatten k s (Mg.got (rows.take i) k s)
  | 0, _ => fun x hx => by simp at hx
  | i + 1, hi => by
    have hr : rows[i]? = some rows[i] := List.getElem?_eq_getElem (by omega)
    have hm := List.mem_of_getElem? hr
    generalize rows[i] = r at hr hm
    rw [got_yes hr (h r hm), List.take_add_one, hr, List.flatten_append]
    have := (got_isG h k s i (by omega)).step (IsG.row (Mg.row_iff.1 (h r hm)) k s)
    simpa using this
theorem got_tog {rows : List (List Mm.Ent)} (h : ∀ r ∈ rows, Mg.row r = true) (k : List UInt8) (s : Nat) : Mg.got rows k s = (Mg.tog rows).find? (Mm.mt k s) := by
  have h1 := got_isG h k s rows.length (Nat.le_refl _)
  rw [List.take_length] at h1
  exact h1.uniq (fun a b => (Mg.tog_look rows a b).symm) (IsG.row (Mg.tog_row rows) k s)
theorem seen_get {L : List Mm.Ent} (h : Mg.Rw L) {k : List UInt8} {s : Nat} {y : Mm.Ent} (hy : y ∈ Mg.seen L s) (hk : y.key = k) : L.find? (Mm.mt k s) = some y ∧ y.del = false := by
  obtain ⟨hyl, hp⟩ := List.mem_filter.1 hy
  unfold Mg.seenP at hp
  rw [Bool.and_eq_true] at hp
  obtain ⟨h1, h2⟩ := hp
  rw [Mg.first_iff] at h1
  refine ⟨?_, by simpa using h2⟩
  refine (IsG.row h k s).uniq (fun _ _ => rfl) (b := some y) ⟨Mm.mt_iff.2 ⟨hk, h1.1⟩, fun x hx hxm => ?_, Mg.look_mem h hyl⟩
  obtain ⟨e1, e2⟩ := Mm.mt_iff.1 hxm
  by_cases hc : x.seq ≤ y.seq
  · exact hc
  · have := h1.2 x hx (e1.trans hk.symm) (by omega); omega
theorem get_seen {L : List Mm.Ent} (h : Mg.Rw L) {k : List UInt8} {s : Nat} {z : Mm.Ent} (hf : L.find? (Mm.mt k s) = some z) (hd : z.del = false) : z ∈ Mg.seen L s ∧ z.key = k := by
  have hG := IsG.row h k s
  rw [hf] at hG
  obtain ⟨q1, q2, q3⟩ := hG
  obtain ⟨e1, e2⟩ := Mm.mt_iff.1 q1
  refine ⟨List.mem_filter.2 ⟨List.mem_of_find?_eq_some hf, ?_⟩, e1⟩
  unfold Mg.seenP
  rw [hd, Bool.and_eq_true, Mg.first_iff]
  refine ⟨⟨e2, fun x hx ek hlt => ?_⟩, rfl⟩
  by_cases hc : x.seq ≤ s
  · have := q2 x hx (Mm.mt_iff.2 ⟨ek.trans e1, hc⟩); omega
  · omega
/-- is there an entry of the key? -/
def hasK (l : List Mm.Ent) (k : List UInt8) : Bool := l.any (fun y => decide (y.key = k))
theorem hasK_step {l : List Mm.Ent} {i : Nat} {x : Mm.Ent} (h : l[i]? = some x) (k : List UInt8) : hasK (l.take (i + 1)) k = (hasK (l.take i) k || decide (x.key = k)) := by
  unfold hasK; rw [List.take_add_one, h, List.any_append]; simp
theorem hasK_seen {L : List Mm.Ent} (h : Mg.Rw L) (k : List UInt8) (s : Nat) : hasK (Mg.seen L s) k = ((L.find? (Mm.mt k s)).isSome && !((L.find? (Mm.mt k s)).getD Mm.zent).del) := by
  rw [Bool.eq_iff_iff]
  unfold hasK
  rw [List.any_eq_true, Bool.and_eq_true]
  constructor
  · rintro ⟨y, hy, hk⟩
    obtain ⟨h1, h2⟩ := seen_get h hy (by simpa using hk)
    rw [h1]; exact ⟨rfl, by simp [h2]⟩
  · rintro ⟨h1, h2⟩
    cases hf : L.find? (Mm.mt k s) with
    | none => rw [hf] at h1; cases h1
    | some z =>
      rw [hf] at h2
      obtain ⟨q1, q2⟩ := get_seen h hf (by simpa using h2)
      exact ⟨z, q1, by simpa using q2⟩
theorem MergeGets_walk (A : Option Addr) (cap : Nat) (rs : List Rs) (S : ByteArray) (a1 : Int) {w : World} (ha : Rwx w A rs) (hl : rs.length ≤ cap ∧ cap ≤ maxLen) (hS : S.size ≤ maxLen) (h1 : (Lit.int .u64 a1).wf = true) :
    Calls Try.prog 8 #[.slice A rs.length cap, .string S, .int .u64 a1] w fun e w' => e = .returned (.bool true) ∧ Kept w w' := by
  have b1 := bounds_u64 h1
  obtain ⟨s, rfl⟩ : ∃ s : Nat, a1 = (s : Int) := ⟨a1.toNat, by omega⟩
  obtain ⟨k, rfl⟩ : ∃ k, S = bs k := ⟨S.data.toList, (mbs_self S).symm⟩
  rw [mbs_size] at hS
  unfold maxLen at hS
  have s1 := mbs_size k
  have HX := Lib.hid ha
  have HL0 := Lib.hid (fun w1 (g : Kept w w1) => glarge_any cap (ha.kept g) (Nat.le_trans hl.1 hl.2))
  clear h1 ha hl
  go_enter Try.func8, Try.ntmps8
  go_wp2_with fail
  refine (gmawake_any w).mono ?_
  rintro e w1 ⟨rfl, g1⟩
  have HL := Lib.hid (HL0.out w1 g1)
  have G1 := Lib.hid g1
  clear g1
  go_wp2_with fail
  refine HL.out.mono ?_
  rintro e w2 ⟨B, rfl, g2, hB⟩
  have G := Lib.hid (kept_trans G1.out g2)
  clear g2 HL HL0
  cases B with
  | true =>
    clear s1
    go_wp2_with fail
    go_ret
    exact ⟨rfl, G.out⟩
  | false =>
    obtain ⟨h30, h300⟩ := hB rfl
    have HRW := Lib.hid ((HX.out.kept G.out).rws h300)
    have H300 := Lib.hid h300
    clear hB h300
    by_cases c1 : 300 < k.length
    · have d1 : decide ((300 : Int) < ((bs k).size : Int)) = true := by rw [s1]; simp; omega
      clear s1
      go_wp2_with fail
      go_ret
      exact ⟨rfl, G.out⟩
    · have d1 : decide ((300 : Int) < ((bs k).size : Int)) = false := by rw [s1]; simp; omega
      clear s1
      have HALL := Lib.hid (gall_any cap HRW.out (by omega) (by have := H300.out; omega))
      cases hv : (rs.map Rs.l).all Mg.row with
      | false =>
        rw [(all_not hv).1, (all_not hv).2] at HALL
        clear hv
        go_wp2_with fail
        refine HALL.out.mono ?_
        rintro e w3 ⟨B, c, rfl, _, g3⟩
        go_wp2_with fail
        go_ret
        exact ⟨rfl, kept_trans G.out g3⟩
      | true =>
        rw [(all_of hv).1, (all_of hv).2] at HALL
        have hV := List.all_eq_true.1 hv
        have q3 : (Mg.tog (rs.map Rs.l)).length ≤ 300 := Nat.le_trans (Mg.tog_len _) H300.out
        have HGET := Lib.hid (fun W (K : Kept w2 W) => gget_any cap (HRW.out.kept K) (by omega) k s)
        rw [got_tog hV k s] at HGET
        have HR3 := Lib.hid (Mg.tog_row (rs.map Rs.l))
        have HR3' := Lib.hid (tog_isrow (rs.map Rs.l))
        have HSG := Lib.hid (fun y (hy : y ∈ Mg.seen (Mg.tog (rs.map Rs.l)) s) (hk : y.key = k) => (seen_get (Mg.tog_row _) hy hk).1)
        have HHK := Lib.hid (hasK_seen (Mg.tog_row (rs.map Rs.l)) k s)
        clear hv hV
        generalize Mg.tog (rs.map Rs.l) = T at *
        generalize hF : T.find? (Mm.mt k s) = F at *
        have hyes := rS_yes (m := Mg.seen T s) HR3'.out
        have q4 : (Mg.seen T s).length ≤ 300 := Nat.le_trans (List.length_filter_le _ _) q3
        have HSN := Lib.hid (fun W B c (h : Els W B T) => gseen_any c h (by omega) s)
        rw [hyes.1, hyes.2] at HSN
        generalize Mg.seen T s = U at *
        clear hyes HR3 HR3' hF
        go_wp2_with fail
        refine HALL.out.mono ?_
        rintro e w3 ⟨B, c, rfl, hel, g3⟩
        have HE := Lib.hid hel.els; have G3 := Lib.hid g3
        clear hel g3
        go_wp2_with fail
        refine (HSN.out w3 B c HE.out).mono ?_
        rintro e w4 ⟨B4, c4, rfl, hel4, g4⟩
        have HE4 := Lib.hid hel4.els; have G4 := Lib.hid (kept_trans G3.out g4)
        clear hel4 g4
        unfold optV at HGET
        go_wp2_with fail
        refine (HGET.out w4 G4.out).mono ?_
        rintro e w5 ⟨rfl, g5⟩
        have HE5 := Lib.hid (HE4.out.kept g5); have G5 := Lib.hid (kept_trans G4.out g5)
        clear g5 HALL HGET HSN
        generalize hz : F.getD Mm.zent = z at *
        generalize hi : F.isSome = bI at *
        have HZ := Lib.hid hz
        clear hi
        unfold entV
        have k6 : Kept w5 (w5.alloc (entO z)) := (Kept.refl _).alloc _
        have hz6 := malloc_new w5 (entO z)
        unfold entO at k6 hz6
        go_upto_region 12 with fail
        generalize w5.alloc (.cells #[.string (bs z.key), .int .u64 (z.seq : Nat), .bool z.del, .string (bs z.val)] 34) = w6 at *
        have HZ6 := Lib.hid hz6
        have HE6 := Lib.hid (HE5.out.kept k6)
        have G6 := Lib.hid (kept_trans G5.out k6)
        have hB5 := mheap_lt hz6
        clear hz6 k6 hz
        go_wp2_with fail
        go_loopw [13, 49] (fun f t wr => ∃ i : Nat, i ≤ U.length ∧ t = .int .i64 (i : Nat) ∧ f = .bool (hasK (U.take i) k) ∧ Hid (Kept w6 wr)) (fun _ t _ => U.length - (intOf t).toNat)
        case atStart => exact ⟨0, Nat.zero_le _, rfl, rfl, Lib.hid (Kept.refl _)⟩
        case round =>
          obtain ⟨i, hi, rfl, rfl, HK⟩ := hrel
          have rz := (Below.block HK.out _ (mheap_lt HZ6.out)).trans HZ6.out
          have y0 := mcell (v := .string (bs z.key)) rz 0 rfl; have y1 := mcell (v := .int .u64 (z.seq : Nat)) rz 1 rfl; have y2 := mcell (v := .bool z.del) rz 2 rfl; have y3 := mcell (v := .string (bs z.val)) rz 3 rfl
          have hBr := mheap_lt rz
          clear rz
          by_cases hlt : i < U.length
          · obtain ⟨x, hx⟩ : ∃ x, U[i]? = some x := ⟨_, List.getElem?_eq_getElem hlt⟩
            obtain ⟨b, o, rfl, hb, p0, p1, p2, p3⟩ := (HE6.out.kept HK.out) i x hx
            have HST := Lib.hid (hasK_step hx k)
            have HSX := Lib.hid (fun (hk : x.key = k) => (show x = z by rw [← HZ.out, HSG.out x (List.mem_of_getElem? hx) hk]; rfl))
            have n1 := mbs_eq x.key k
            have k7 : Kept wr (wr.alloc (entO x)) := (Kept.refl _).alloc _
            have HK7 := Lib.hid (kept_trans HK.out k7)
            clear hx k7
            unfold entO at HK7
            by_cases hk : x.key = k
            · have hxz := HSX.out hk
              subst hxz
              have HS2 := Lib.hid (show hasK (U.take (i + 1)) k = true by rw [HST.out, decide_eq_true hk]; simp)
              rw [decide_eq_true hk] at n1
              clear hk
              generalize hasK (U.take i) k = fb at *
              go_wp2_with fail
              go_roundw
              case rel => exact ⟨i + 1, by omega, by go_num, by rw [HS2.out], HK7⟩
              case measure => simp [intOf]; omega
            · have HS2 := Lib.hid (show hasK (U.take (i + 1)) k = hasK (U.take i) k by rw [HST.out, decide_eq_false hk]; simp)
              rw [decide_eq_false hk] at n1
              clear hk
              generalize hasK (U.take i) k = fb at *
              go_wp2_with fail
              go_roundw
              case rel => exact ⟨i + 1, by omega, by go_num, by rw [HS2.out], HK7⟩
              case measure => simp [intOf]; omega
          · have e : i = U.length := by omega
            subst e
            have hfb := HHK.out
            rw [List.take_length]
            generalize hasK U k = fb at *
            have HKK := Lib.hid (kept_trans G.out (kept_trans G6.out HK.out))
            cases bI with
            | false =>
              rw [Bool.false_and] at hfb
              subst hfb
              go_wp2_with fail
              go_ret
              exact ⟨rfl, HKK.out⟩
            | true =>
              rw [Bool.true_and] at hfb
              generalize z.del = zd at *
              subst hfb
              cases zd with
              | true =>
                go_wp2_with fail
                go_ret
                exact ⟨rfl, HKK.out⟩
              | false =>
                go_wp2_with fail
                go_ret
                exact ⟨rfl, HKK.out⟩
end Go.Proofs.Ytikknoojgeeflaa
