/-
  The walk of screelaw09.BlockWhole.
-/
import Derived.Test.YtpnabojfliphpaaBlockArgs
namespace Go.Proofs.Ytpnabojfliphpaa
open Go.ChangeShapes Go.WideShapes Go.ChangeAt Go.RowKit
set_option linter.unusedVariables false
set_option maxRecDepth 100000
set_option maxHeartbeats 4000000

theorem lt_snoc : ∀ (a : List UInt8) (c : UInt8), a < a ++ [c]
  | [], c => by simp
  | x :: a, c => by
    have := lt_snoc a c
    rw [List.cons_append, List.cons_lt_cons_iff]
    exact .inr ⟨rfl, this⟩
theorem all_ahead {l : List Mm.Ent} (h : Mg.row l = true) {n : Nat} {z : Mm.Ent} (hz : l[n]? = some z) (hn : n + 1 = l.length) (s : Nat) : ∀ y ∈ l, y.ah (z.key ++ [0]) s = true := fun y hy => by
  obtain ⟨i, hi⟩ := List.getElem?_of_mem hy
  have hil := (List.getElem?_eq_some_iff.1 hi).1
  have hk : y.key < z.key ++ [0] := by
    by_cases e : i = n
    · subst e
      rw [hi] at hz
      injection hz with hz
      rw [hz]
      exact lt_snoc _ _
    · have := (Mg.row_iff.1 h).lt hi hz (by omega)
      rcases Mg.ab_iff.1 this with q | ⟨q, _⟩
      · exact Mm.lt_trans q (lt_snoc _ _)
      · rw [q]; exact lt_snoc _ _
  unfold Mm.Ent.ah
  rw [Mm.ahd_iff]
  exact .inl hk
theorem isB_one {l : List Mm.Ent} {x : Mm.Ent} (h : Bk.isB l = true) (hx : l[0]? = some x) : Bk.isB [x] = true := by
  rw [Bk.isB_iff] at *
  refine ⟨by simp, by simp, fun y hy => ?_, rfl⟩
  rw [List.mem_singleton] at hy
  rw [hy]
  exact h.2.2.1 x (List.mem_of_getElem? hx)
theorem sk_one {x : Mm.Ent} (h : Mm.may x = true) : sk [x] [] 0 = some x := by
  have hk := (Mm.may_iff.1 h).1
  have : x.ah [] 0 = false := by
    unfold Mm.Ent.ah
    rw [Bool.eq_false_iff, ne_eq, Mm.ahd_iff]
    rintro (q | ⟨q, _⟩)
    · simp at q
    · rw [q] at hk; simp at hk
  unfold sk
  simp [this]
theorem kenc_one {w : World} {A : Option Addr} {x : Mm.Ent} (c : Nat) (h : Els w A [x]) (hok : Bk.isB [x] = true) :
    Calls Try.prog 16 #[.slice A 1 c] w fun e w' => e = .returned (.tuple #[.string (bs (Bk.enc [x])), .int .i64 0]) ∧ Kept w w' := kencode_ok c h hok
theorem kenc_void {w : World} {A : Option Addr} {l : List Mm.Ent} (c : Nat) (h : Els w A l) (hl : l.length ≤ maxLen) (ho : OkEl l) (hok : Bk.isB l = false) :
    Calls Try.prog 16 #[.slice A l.length c] w fun e w' => e = .returned (.tuple #[.string ⟨#[]⟩, .int .i64 2]) ∧ Kept w w' := kencode_no c h hl ho hok
theorem kseek_first {x : Mm.Ent} (h : Bk.isB [x] = true) (w : World) :
    Calls Try.prog 23 #[.string (bs (Bk.enc [x])), .string ⟨#[]⟩, .int .u64 0] w fun e w' => e = .returned (.tuple #[.agg #[.string (bs x.key), .int .u64 (x.seq : Nat), .bool x.del, .string (bs x.val)], .bool true, .int .i64 0]) ∧ Kept w w' := by
  have := kseek_any (Bk.enc [x]) [] 0 (by have := Bk.enc_len h; omega) w
  rw [Bk.dec_enc h] at this
  unfold skV at this
  simp only at this
  rw [sk_one ((Bk.isB_iff.1 h).2.2.1 x (by simp))] at this
  exact this
theorem kseek_last {l : List Mm.Ent} (h : Bk.isB l = true) {n : Nat} {z : Mm.Ent} (hz : l[n]? = some z) (hn : n + 1 = l.length) (w : World) :
    Calls Try.prog 23 #[.string (bs (Bk.enc l)), .string (bs z.key ++ ⟨#[0]⟩), .int .u64 18446744073709551615] w fun e w' => e = .returned (.tuple #[.agg #[.string ⟨#[]⟩, .int .u64 0, .bool false, .string ⟨#[]⟩], .bool false, .int .i64 0]) ∧ Kept w w' := by
  have := kseek_any (Bk.enc l) (z.key ++ [0]) 18446744073709551615 (by have := Bk.enc_len h; omega) w
  rw [Bk.dec_enc h, ← fbs_app] at this
  unfold skV at this
  simp only at this
  rw [sk_none (all_ahead (Bk.isB_iff.1 h).2.2.2 hz hn _)] at this
  exact this
theorem BlockWhole_walk (A : Option Addr) (cap : Nat) (l : List Mm.Ent) {w : World} (ha : Els w A l) (hl : l.length ≤ cap ∧ cap ≤ maxLen ∧ OkEs l) :
    Calls Try.prog 8 #[.slice A l.length cap] w fun e w' => e = .returned (.bool true) ∧ Kept w w' := by
  obtain ⟨hc, hm, ho⟩ := hl
  have HE := Lib.hid ha; have HO := Lib.hid ho
  have hlm : l.length ≤ maxLen := by omega
  have HLG := Lib.hid (fun W (h : Els W A l) => klarge_any cap h hlm ho)
  clear ha
  go_enter Try.func8, Try.ntmps8
  go_wp2_with fail
  refine (kawake_any w).mono ?_
  rintro e w1 ⟨rfl, g1⟩
  go_wp2_with fail
  refine (HLG.out _ (HE.out.kept g1)).mono ?_
  rintro e w2 ⟨B, rfl, g2, hB⟩
  have G2 := Lib.hid (kept_trans g1 g2)
  have HB := Lib.hid hB
  clear g1 g2 hB
  cases B with
  | true =>
    go_wp2_with fail
    go_ret
    exact ⟨rfl, G2.out⟩
  | false =>
    obtain ⟨h60, _⟩ := HB.out rfl
    cases hb : Bk.isB l with
    | false =>
      have HEN := Lib.hid (kenc_void cap (HE.out.kept G2.out) hlm (es_el HO.out) hb)
      clear hb
      go_wp2_with fail
      refine HEN.out.mono ?_
      rintro e w3 ⟨rfl, g3⟩
      go_wp2_with fail
      go_ret
      exact ⟨rfl, kept_trans G2.out g3⟩
    | true =>
      have HEN := Lib.hid (kencode_ok cap (HE.out.kept G2.out) hb)
      have hct := kcount_any (Bk.enc l) (by have := Bk.enc_len hb; omega)
      rw [Bk.count_enc (Bk.isB_iff.1 hb).2.1] at hct
      have HCT := Lib.hid hct
      have hl1 := (Bk.isB_iff.1 hb).1
      have hl32 := (Bk.isB_iff.1 hb).2.1
      obtain ⟨x, hx⟩ : ∃ x, l[0]? = some x := ⟨_, List.getElem?_eq_getElem (show 0 < l.length by omega)⟩
      obtain ⟨n, hn⟩ : ∃ n, n + 1 = l.length := ⟨l.length - 1, by omega⟩
      obtain ⟨z, hz⟩ : ∃ z, l[n]? = some z := ⟨_, List.getElem?_eq_getElem (show n < l.length by omega)⟩
      have hb1 := isB_one hb hx
      have HE1 := Lib.hid (fun W (h : Els W A [x]) => kenc_one cap h hb1)
      have HS1 := Lib.hid (kseek_first hb1)
      have HS2 := Lib.hid (kseek_last hb hz hn)
      have zk : (bs z.key).size ≤ 100 := by rw [fbs_size]; exact (Mm.may_iff.1 ((Bk.isB_iff.1 hb).2.2.1 z (List.mem_of_getElem? hz))).2.1
      have hsz : 8 * ((l.length + 3) / 4) + 8 ≤ (bs (Bk.enc l)).size := by
        rw [fbs_size]
        unfold Bk.enc
        rw [List.length_append, List.length_append, Bk.P_len, Nm.long_len]
        omega
      have hsz2 : (bs (Bk.enc l)).size ≤ 7000 := by rw [fbs_size]; exact Bk.enc_len hb
      have HT := Lib.hid (show l.take 1 = [x] by rw [show (1 : Nat) = 0 + 1 from rfl, List.take_add_one, hx]; rfl)
      obtain ⟨q, hq⟩ : ∃ q : Nat, q = (l.length + 3) / 4 := ⟨_, rfl⟩
      have HX := Lib.hid hx; have HZ := Lib.hid hz; have HN := Lib.hid hn
      have HEL1 := Lib.hid (fun W (h : Els W A l) => (show Els W A [x] from fun j y hy => by
        match j, hy with
        | 0, hy => simp at hy; subst hy; exact h 0 x HX.out
        | j + 1, hy => simp at hy))
      generalize Bk.enc l = E at *
      generalize Bk.enc [x] = E1 at *
      clear hb hct hb1 hx hz
      have e1 : (l.length : Int) + 4 - 1 = (l.length : Int) + 3 := by omega
      have e2 : ((l.length : Int) + 3) / 4 = (q : Int) := by omega
      have e3 : decide (((bs E).size : Int) < 8 * ((q : Int) + 1)) = false := decide_eq_false (by omega)
      have e4 : (l.length : Int) - 1 = (n : Int) := by omega
      have hcap : 1 ≤ cap := by omega
      clear hq hsz
      go_wp2_with fail
      refine HEN.out.mono ?_
      rintro e w3 ⟨rfl, g3⟩
      have G3 := Lib.hid (kept_trans G2.out g3)
      clear g3 HEN
      go_wp2_with fail
      refine (HCT.out _).mono ?_
      rintro e w4 ⟨rfl, rfl⟩
      have HE1' := Lib.hid (HE1.out _ (HEL1.out _ (HE.out.kept G3.out)))
      clear HE1 HEL1 HCT
      go_wp2_with fail
      refine HE1'.out.mono ?_
      rintro e w4 ⟨rfl, g4⟩
      go_wp2_with fail
      refine (HS1.out _).mono ?_
      rintro e w5 ⟨rfl, g5⟩
      have hX5 := malloc_new w5 (.cells #[.string (bs x.key), .int .u64 (x.seq : Nat), .bool x.del, .string (bs x.val)] 35)
      have x0 := blk_cell hX5 0; have x1 := blk_cell hX5 1; have x2 := blk_cell hX5 2; have x3 := blk_cell hX5 3
      simp only [List.getElem?_toArray, List.getElem?_cons_zero, List.getElem?_cons_succ] at x0 x1 x2 x3
      have G5 := Lib.hid (kept_trans G3.out (kept_trans g4 (kept_trans g5 ((Kept.refl w5).alloc (.cells #[.string (bs x.key), .int .u64 (x.seq : Nat), .bool x.del, .string (bs x.val)] 35)))))
      obtain ⟨b, o, rfl, hb, c0, c1, c2, c3⟩ := (HE.out.kept G5.out) 0 x HX.out
      obtain ⟨b', o', eA, _, y0, _, _, _⟩ := (HE.out.kept G5.out) n z HZ.out
      cases eA
      rw [Nat.zero_mul, Nat.add_zero] at c0 c1 c2 c3
      have hnl : n < l.length := by omega
      clear g4 g5 hX5 HE1' HS1
      go_wp2_with fail
      go_quiet (fail)
      go_wp2_with fail
      refine (HS2.out _).mono ?_
      rintro e w6 ⟨rfl, g6⟩
      go_wp2_with fail
      go_ret
      exact ⟨rfl, kept_trans G5.out (kept_trans (kept_drewN _ _) g6)⟩
end Go.Proofs.Ytpnabojfliphpaa
