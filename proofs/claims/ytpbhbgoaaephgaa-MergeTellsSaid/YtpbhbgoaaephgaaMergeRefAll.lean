/-
  The document's own All of layer 8: rows together.
-/
import Derived.Test.YtpbhbgoaaephgaaMergeRefWith
namespace Go.Proofs.Ytpbhbgoaaephgaa
open Go.ChangeShapes Go.WideShapes Go.ChangeAt Go.RowKit
set_option linter.unusedVariables false
set_option maxRecDepth 100000
set_option maxHeartbeats 4000000

/-- the first i rows together -/
def tgi (rs : List Rs) (i : Nat) : List Mm.Ent := Mg.insAll [] ((rs.take i).map Rs.l).flatten
theorem insAll_snoc {L m : List Mm.Ent} {k : Nat} {x : Mm.Ent} (h : m[k]? = some x) : Mg.insAll L (m.take (k + 1)) = Mg.ins (Mg.insAll L (m.take k)) x := by
  unfold Mg.insAll
  rw [List.take_add_one, h, List.foldl_append]; rfl
theorem tgi_step {rs : List Rs} {i : Nat} {r : Rs} (h : rs[i]? = some r) : tgi rs (i + 1) = Mg.insAll (tgi rs i) r.l := by
  unfold tgi Mg.insAll
  rw [List.take_add_one, h, List.map_append, List.flatten_append, List.foldl_append]
  simp
theorem ins_ne (l : List Mm.Ent) (x : Mm.Ent) : Mg.ins l x ≠ [] := by
  cases l with
  | nil => unfold Mg.ins; simp
  | cons y l => unfold Mg.ins; split <;> (try split) <;> simp
theorem grall_any {w : World} {A : Option Addr} {rs : List Rs} (cr : Nat) (H : Rws w A rs) (hn : rs.length ≤ 1000) (hs : (rs.map Rs.l).flatten.length ≤ 2000) :
    Calls Try.prog 44 #[.slice A rs.length cr] w fun e w' => ∃ B c, e = .returned (.tuple #[.slice B (Mg.allS (rs.map Rs.l)).length c, .int .i64 (Mg.allC (rs.map Rs.l))]) ∧ Els w' B (Mg.allS (rs.map Rs.l)) ∧ Kept w w' := by
  have HR := Lib.hid H
  have HLEN := Lib.hid (show ∀ i r k, rs[i]? = some r → (Mg.insAll (tgi rs i) (r.l.take k)).length ≤ 2000 from fun i r k hr => by
    have h1 := Mg.insAll_len (r.l.take k) (tgi rs i)
    have h2 := Mg.insAll_len ((rs.take i).map Rs.l).flatten []
    have h3 := flat_step hr
    have h4 : ((rs.take (i + 1)).map Rs.l).flatten.length ≤ (rs.map Rs.l).flatten.length := by
      have e : rs.map Rs.l = (rs.take (i + 1)).map Rs.l ++ (rs.drop (i + 1)).map Rs.l := by rw [← List.map_append, List.take_append_drop]
      rw [e, List.flatten_append, List.length_append]; omega
    have h5 : (r.l.take k).length ≤ r.l.length := by rw [List.length_take]; omega
    unfold tgi at h1 ⊢
    simp only [List.length_nil] at h2
    omega)
  have HST := Lib.hid (fun i r (hr : rs[i]? = some r) => tgi_step hr)
  have HT0 := Lib.hid (show tgi rs 0 = [] from rfl)
  have HTE := Lib.hid (show tgi rs rs.length = Mg.tog (rs.map Rs.l) by unfold tgi Mg.tog; rw [List.take_length])
  have g0 : Kept w (w.alloc (.cells #[] 51)) := (Kept.refl _).alloc _
  have G0 := Lib.hid g0
  clear H hs g0
  go_enter Try.func44, Try.ntmps44
  go_wp2_with fail
  go_loopw [5] (fun t wr => ∃ i : Nat, i ≤ rs.length ∧ t = .int .i64 (i : Nat) ∧ Hid (∀ r ∈ rs.take i, Mg.row r.l = true) ∧ Hid (Kept w wr)) (fun t _ => rs.length - (intOf t).toNat)
  case atStart => exact ⟨0, Nat.zero_le _, rfl, Lib.hid (fun r hr => by simp at hr), G0⟩
  case round =>
    obtain ⟨i, hi, rfl, HA, HK⟩ := hrel
    by_cases hlt : i < rs.length
    · obtain ⟨r, hr⟩ : ∃ r, rs[i]? = some r := ⟨_, List.getElem?_eq_getElem hlt⟩
      have hm := List.mem_of_getElem? hr
      obtain ⟨b, o, rfl, hb, c0⟩ := (HR.out.kept HK.out).at_ i r hr
      have hrow := grrow_any r.c ((HR.out.els r hm).kept HK.out) (HR.out.few r hm)
      have HRI := Lib.hid hr
      cases hv : Mg.row r.l with
      | false =>
        have HNO := Lib.hid (allS_no (rows := rs.map Rs.l) (i := i) (r := r.l) (by rw [List.getElem?_map, hr]; rfl) hv)
        rw [hv] at hrow
        have HRW := Lib.hid hrow
        clear hrow hv hm hr
        go_wp2_with fail
        refine HRW.out.mono ?_
        rintro e w1 ⟨rfl, k1⟩
        go_wp2_with fail
        go_ret2
        exact ⟨none, 0, by rw [HNO.out.1, HNO.out.2]; rfl, by rw [HNO.out.1]; exact fun j x hx => by simp at hx, kept_trans HK.out k1⟩
      | true =>
        have HV := Lib.hid hv
        rw [hv] at hrow
        have HRW := Lib.hid hrow
        clear hrow hv hm hr
        go_wp2_with fail
        refine HRW.out.mono ?_
        rintro e w1 ⟨rfl, k1⟩
        have HK1 := Lib.hid (kept_trans HK.out k1)
        have HA' := Lib.hid (show ∀ q ∈ rs.take (i + 1), Mg.row q.l = true from fun q hq => by
          rw [List.take_add_one, HRI.out, List.mem_append] at hq
          rcases hq with hq | hq
          · exact HA.out q hq
          · simp at hq; rw [hq]; exact HV.out)
        clear k1
        go_wp2_with fail
        go_roundw
        case rel => exact ⟨i + 1, by omega, by go_num, HA', HK1⟩
        case measure => simp [intOf]; omega
    · have e : i = rs.length := by omega
      subst e
      rw [List.take_length] at HA
      have HYES := Lib.hid (allS_yes (rows := rs.map Rs.l) (fun l hl => by obtain ⟨r, hr, rfl⟩ := List.mem_map.1 hl; exact HA.out r hr))
      go_wp2_with fail
      go_loopw [4, 6] (fun v t wr => ∃ (i : Nat) (L : List Mm.Ent) (A' : Option Addr) (c' : Nat), i ≤ rs.length ∧ t = .int .i64 (i : Nat) ∧ v = .slice A' L.length c' ∧ Hid (L = tgi rs i) ∧ Hid (Els wr A' L) ∧ L.length ≤ c' ∧ Hid (c' ≤ maxLen) ∧ Hid (L = [] → ∃ b o, A' = some ⟨b, o, none⟩) ∧ Hid (Kept w wr)) (fun _ t _ => rs.length - (intOf t).toNat)
      case atStart => exact ⟨0, [], _, 0, Nat.zero_le _, rfl, rfl, Lib.hid HT0.out.symm, Lib.hid (fun j x hx => by simp at hx), Nat.zero_le _, Lib.hid (Nat.zero_le _), Lib.hid (fun _ => ⟨_, _, rfl⟩), HK⟩
      case round =>
        clear HK
        obtain ⟨i, L, A', c', hi, rfl, rfl, HL, HE, hLc, HM, HN, HK⟩ := hrel
        by_cases hlt : i < rs.length
        · obtain ⟨r, hr⟩ : ∃ r, rs[i]? = some r := ⟨_, List.getElem?_eq_getElem hlt⟩
          have HRI := Lib.hid hr
          have HMEM := Lib.hid (List.mem_of_getElem? hr)
          clear hr
          go_wp2_with fail
          go_loopw [4, 7] (fun v t wr => ∃ (k : Nat) (L : List Mm.Ent) (A' : Option Addr) (c' : Nat), k ≤ r.l.length ∧ t = .int .i64 (k : Nat) ∧ v = .slice A' L.length c' ∧ Hid (L = Mg.insAll (tgi rs i) (r.l.take k)) ∧ Hid (Els wr A' L) ∧ L.length ≤ c' ∧ Hid (c' ≤ maxLen) ∧ Hid (L = [] → ∃ b o, A' = some ⟨b, o, none⟩) ∧ Hid (Kept w wr)) (fun _ t _ => r.l.length - (intOf t).toNat)
          case atStart => exact ⟨0, L, _, _, Nat.zero_le _, rfl, rfl, Lib.hid (by rw [HL.out]; rfl), HE, hLc, HM, HN, HK⟩
          case round =>
            clear HL HE hLc HM HN HK
            obtain ⟨k, L, A', c', hk, rfl, rfl, HL, HE, hLc, HM, HN, HK⟩ := hrel
            obtain ⟨b, o, rfl, hb, c0⟩ := (HR.out.kept HK.out).at_ i r HRI.out
            have hrl : r.l.length ≤ 4000 := HR.out.few r HMEM.out
            by_cases hk2 : k < r.l.length
            · obtain ⟨x, hx⟩ : ∃ x, r.l[k]? = some x := ⟨_, List.getElem?_eq_getElem hk2⟩
              obtain ⟨b2, o2, hA2, hb2, p0, p1, p2, p3⟩ := ((HR.out.els r HMEM.out).kept HK.out) k x hx
              rw [hA2] at c0
              have hll : L.length ≤ 2000 := by rw [HL.out]; exact HLEN.out i r k HRI.out
              have hwi := gwith_any c' HE.out hLc HM.out (by omega) HN.out x
              have HL2 := Lib.hid (show Mg.ins L x = Mg.insAll (tgi rs i) (r.l.take (k + 1)) by rw [insAll_snoc hx, HL.out])
              have HNE := Lib.hid (ins_ne L x)
              generalize Mg.ins L x = I at *
              unfold entV at hwi
              have HWI := Lib.hid hwi
              clear hwi hx hA2
              go_wp2_with fail
              refine HWI.out.mono ?_
              rintro e w1 ⟨A1, c1, rfl, he1, hc1, hm1, k1⟩
              have HE1 := Lib.hid he1; have HM1 := Lib.hid hm1; have HK1 := Lib.hid (kept_trans HK.out k1)
              clear he1 hm1 k1
              go_wp2_with fail
              go_roundw
              case rel => exact ⟨k + 1, I, A1, c1, by omega, by go_num, rfl, HL2, HE1, hc1, HM1, Lib.hid (fun h => absurd h HNE.out), HK1⟩
              case measure => simp [intOf]; omega
            · have e : k = r.l.length := by omega
              subst e
              have HL2 := Lib.hid (show L = tgi rs (i + 1) by rw [HST.out i r HRI.out, HL.out, List.take_length])
              go_wp2_with fail
              go_roundw
              case rel => exact ⟨i + 1, L, A', c', by omega, by go_num, rfl, HL2, HE, hLc, HM, HN, HK⟩
              case measure => simp [intOf]; omega
        · have e : i = rs.length := by omega
          subst e
          have HLT := Lib.hid (HL.out.trans HTE.out)
          go_wp2_with fail
          go_ret2
          exact ⟨A', c', by rw [HYES.out.1, HYES.out.2, ← HLT.out]; rfl, by rw [HYES.out.1, ← HLT.out]; exact HE.out, HK.out⟩
end Go.Proofs.Ytpbhbgoaaephgaa
