/-
  awake and texts of the statements of layer 6.
-/
import Derived.Test.YtlkcdcpdccmodaaGreatDoorWalNums
import Derived.BigQuiet
namespace Go.Proofs.YtlkcdcpdccmodaaGreatDoor
open Go.ChangeShapes Go.WideShapes Go.ChangeAt Go.RowKit
set_option linter.unusedVariables false
set_option maxRecDepth 100000
set_option maxHeartbeats 1000000

theorem wtexts_any (A1 A2 : Option Addr) (c1 c2 : Nat) (l m : List (List UInt8)) (hl : l.length ≤ maxLen) (hm : m.length ≤ maxLen) (w : World) (h1 : Txs w A1 l) (h2 : Txs w A2 m) :
    Calls Tryz.prog 32 #[.slice A1 l.length c1, .slice A2 m.length c2] w fun e w' => e = .returned (.bool (decide (l = m))) ∧ Kept w w' := by
  unfold maxLen at hl hm
  by_cases hlen : l.length = m.length
  · have d : ((l.length : Int) != (m.length : Int)) = false := by simp [hlen]
    have HLEN := Lib.hid hlen; clear hlen
    go_enter Tryz.func32, Tryz.ntmps32
    go_wp2_with fail
    go_loopw [13] (fun t wr => ∃ (k : Nat), k ≤ l.length ∧ t = .int .i64 k ∧ Hid (l.take k = m.take k) ∧ Kept w wr) (fun t _ => l.length - (intOf t).toNat)
    case atStart => exact ⟨0, Nat.zero_le _, rfl, Lib.hid rfl, Kept.refl _⟩
    case round =>
      obtain ⟨k, hk, rfl, HE, hkr⟩ := hrel
      by_cases hlt : k < l.length
      · have hlt2 : k < m.length := by have := HLEN.out; omega
        have hx : l[k]? = some l[k] := List.getElem?_eq_getElem hlt
        have hy : m[k]? = some m[k] := List.getElem?_eq_getElem hlt2
        generalize l[k] = x at hx
        generalize m[k] = y at hy
        obtain ⟨b1, o1, rfl, hb1, hc1⟩ := (h1.kept hkr) k x hx
        obtain ⟨b2, o2, rfl, hb2, hc2⟩ := (h2.kept hkr) k y hy
        by_cases hxy : x = y
        · subst hxy
          have hn : l.take (k + 1) = m.take (k + 1) := by rw [List.take_add_one, List.take_add_one, hx, hy, HE.out]
          have HN := Lib.hid hn
          clear hx hy hn
          go_wp2_with fail
          go_quiet (fail)
          go_wp2_with fail
          go_roundw
          case rel => exact ⟨k + 1, by omega, by go_num, HN, kept_trans hkr (kept_drewN _ _)⟩
          case measure => simp [intOf]; omega
        · have hne : l ≠ m := by
            rintro rfl
            rw [hx] at hy
            exact hxy (Option.some.inj hy)
          have d1 : ((bs x).toList == (bs y).toList) = false := by
            rw [Lib.toList_data, Lib.toList_data, bs_data, bs_data]; simpa using hxy
          have d2 : ((bs x).toList != (bs y).toList) = true := by simp [bne, d1]
          have hd : decide (l = m) = false := decide_eq_false hne
          have HD := Lib.hid hd
          clear hx hy hxy hne hd
          go_wp2_with fail
          go_quiet (fail)
          go_wp2_with fail
          go_ret
          exact ⟨by rw [HD.out]; rfl, kept_trans hkr (kept_drewN _ _)⟩
      · have e : k = l.length := by omega
        subst e
        have he := HE.out
        rw [List.take_length, HLEN.out, List.take_length] at he
        have hd : decide (l = m) = true := decide_eq_true he
        have HD := Lib.hid hd
        clear he hd
        go_wp2_with fail
        go_ret
        exact ⟨by rw [HD.out]; rfl, hkr⟩
  · have d : ((l.length : Int) != (m.length : Int)) = true := by simp; omega
    have hd : decide (l = m) = false := decide_eq_false (fun e => hlen (by rw [e]))
    rw [hd]
    clear hd
    go_enter Tryz.func32, Tryz.ntmps32
    go_wp2_with fail
    go_ret
    exact ⟨rfl, Kept.refl _⟩

namespace Wa
def A1 : List UInt8 := [1, 97, 196]
def A2 : List UInt8 := [1, 97, 196, 1, 98, 199]
def A3 : List UInt8 := [1, 97, 196, 1, 98, 199, 1, 99, 198]
def A4 : List UInt8 := [1, 97, 196, 1, 98, 199, 1, 99]
theorem mk1 : Fr.mk [97] = [1, 97, 196] := by kernel_rfl
theorem mk2 : Fr.mk [98] = [1, 98, 199] := by kernel_rfl
theorem mk3 : Fr.mk [99] = [1, 99, 198] := by kernel_rfl
def m1 : Fs.Dsk := Wl.one 3 [] 0 1048576 (-1) false
def m2 : Fs.Dsk := Wl.one 3 A1 3 1048576 (-1) false
def m3 : Fs.Dsk := Wl.one 3 A2 6 1048576 (-1) false
def m4 : Fs.Dsk := Wl.one 3 A2 6 1048576 1 false
def m5 : Fs.Dsk := Wl.one 3 A3 6 1048576 0 true
def m6 : Fs.Dsk := Wl.one 3 A4 8 1048576 (-1) false
theorem s1 : Wl.mkLog Fs.new 3 = (m1, 0) := Wl.mkLog_new (by decide)
theorem s2 : Wl.lay m1 3 (Fr.mk [97]) = (m2, 0) := by unfold m1 m2; rw [mk1, Wl.lay_off, if_neg (by decide)]; rfl
theorem s3 : Wl.lay m2 3 (Fr.mk [98]) = (m3, 0) := by unfold m2 m3; rw [mk2, Wl.lay_off, if_neg (by decide)]; rfl
theorem s4 : Fs.fuse m3 1 = m4 := rfl
theorem s5 : Wl.lay m4 3 (Fr.mk [99]) = (m5, 30) := by unfold m4 m5; rw [mk3, Wl.lay_lit1 _ _ _ _ _ (by decide)]; rfl
theorem s6 : Fs.crash m5 0 [2] = m6 := by
  unfold m5 m6 Wl.one
  rw [Wl.nm3]
  rfl
theorem r3 : Fs.read m3 (Wl.nm 3) = (A2, 0) := Wl.read_one _ _ _ _ _ _
theorem r6 : Fs.read m6 (Wl.nm 3) = (A4, 0) := Wl.read_one _ _ _ _ _ _
theorem fit2 : Fr.Fit [[97], [98]] := fun t ht => by simp at ht; rcases ht with rfl | rfl <;> decide
theorem rd3 : Fr.Reads A2 [[97], [98]] [] := ⟨fit2, by kernel_rfl, by kernel_rfl⟩
theorem rd6 : Fr.Reads A4 [[97], [98]] [1, 99] := ⟨fit2, by kernel_rfl, by kernel_rfl⟩
theorem nm12 : Wl.nm 12 = [119, 97, 108, 46, 49, 50] := by unfold Wl.nm; rw [Lib.decDigits_two (by decide) (by decide)]; rfl
theorem nm7 : Wl.nm 7 = [119, 97, 108, 46, 55] := by unfold Wl.nm; rw [Lib.decDigits_one (by decide)]; rfl
theorem nm4 : Wl.nm 4 = [119, 97, 108, 46, 52] := by unfold Wl.nm; rw [Lib.decDigits_one (by decide)]; rfl
theorem no012 : Wl.number [119, 97, 108, 46, 48, 49, 50] = none := by
  unfold Wl.number
  have e : Wl.dec (List.drop 4 [119, 97, 108, 46, 48, 49, 50]) = 12 := by kernel_rfl
  rw [e, nm12]
  rfl
theorem rm4 : Fs.remove m6 (Wl.nm 4) = (m6, 10) := by
  unfold m6 Wl.one
  rw [Wl.nm3, nm4]
  rfl
theorem tot1 : Fs.tot m1.files = 0 := rfl
theorem tot2 : Fs.tot m2.files = 3 := rfl
theorem tot4 : Fs.tot m4.files = 6 := rfl
theorem l1 : Wl.after ⟨3, 0, false⟩ (Fr.mk [97]).length 0 = ⟨3, 3, false⟩ := by rw [mk1]; rfl
theorem l2 : Wl.after ⟨3, 3, false⟩ (Fr.mk [98]).length 0 = ⟨3, 6, false⟩ := by rw [mk2]; rfl
theorem l3 : Wl.after ⟨3, 6, false⟩ (Fr.mk [99]).length 30 = ⟨3, 6, true⟩ := by rw [mk3]; rfl
end Wa
theorem new_of (w : World) : Calls Tryz.prog 10 #[] w fun e w' => ∃ p, e = .returned (.pointer (some ⟨p, 0, none⟩)) ∧ Dk (fun b => b < w.heap.size) w' p Fs.new ∧ Kp (fun b => b < w.heap.size) w w' := new_any (fun b hb => hb)
theorem fuse_of {K : Nat → Prop} {w : World} {p : Nat} {G : Gh} {m M : Fs.Dsk} (h : IsDisk K w p G m) (n : Int) (hn : n ≤ 9223372036854775807) (e : Fs.fuse m n = M) :
    Calls Tryz.prog 19 #[.pointer (some ⟨p, 0, none⟩), .int .i64 n] w fun e w' => e = .returned (.tuple #[]) ∧ Dk K w' p M ∧ Kp K w w' := by
  subst e; exact (fuse_any h n hn).mono fun e w' ⟨he, hd, k⟩ => ⟨he, ⟨G, hd⟩, k⟩
set_option maxHeartbeats 4000000 in
theorem wawake_any (w : World) (hv : Vars w) : Calls Tryz.prog 9 #[] w fun e w' => e = .returned (.bool true) ∧ Kept w w' := by
  have H0 := Lib.hid (new_of w)
  have HV := Lib.hid hv; clear hv
  go_enter Tryz.func9, Tryz.ntmps9
  go_wp2_with fail
  refine H0.out.mono ?_
  rintro e w1 ⟨p, rfl, ⟨G1, h1⟩, k1⟩
  have v1 := HV.out.kp k1 (fun b hb => HV.out.lt hb)
  have H1 := Lib.hid (wcreate_ok h1 v1 (n := 3) (by decide) (by decide) Wa.s1)
  clear h1 H0
  go_wp2_with fail
  refine H1.out.mono ?_
  rintro e w2 ⟨b, rfl, hl2, hb2, ⟨G2, h2⟩, k2⟩
  have hbw : w.heap.size ≤ b := Nat.le_trans k1.size hb2
  have kw2 : Kp (fun b => b < w.heap.size) w w2 := k1.trans k2
  have v2 := HV.out.kp kw2 (fun b hb => HV.out.lt hb)
  have hvk : ∀ k, IsVar k → (k < w.heap.size ∨ k = b) := fun k hk => .inl (HV.out.lt hk)
  have hKb : ∀ k, k < w.heap.size → Kb (fun k => k < w.heap.size ∨ k = b) b k := fun k hk => ⟨.inl hk, by omega⟩
  have H2 := Lib.hid (wadd_lay h2 hl2 (.inr rfl) v2 hvk (by decide) rfl (by decide) ⟨#[97]⟩ (by decide) (by rw [Wa.tot1]; decide) Wa.s2)
  clear H1 h2 k1 k2 v1 hl2
  go_wp2_with fail
  refine H2.out.mono ?_
  rintro e w3 ⟨rfl, ⟨G3, h3⟩, hl3, k3⟩
  have hl3' := hl3.at Wa.l1
  have kw3 := kw2.trans (k3.mono hKb)
  have v3 := HV.out.kp kw3 (fun b hb => HV.out.lt hb)
  have H3 := Lib.hid (wadd_lay h3 hl3' (.inr rfl) v3 hvk (by decide) rfl (by decide) ⟨#[98]⟩ (by decide) (by rw [Wa.tot2]; decide) Wa.s3)
  clear H2 h3 hl3 hl3' k3 kw2 v2
  go_wp2_with fail
  refine H3.out.mono ?_
  rintro e w4 ⟨rfl, ⟨G4, h4⟩, hl4, k4⟩
  have hl4' := hl4.at Wa.l2
  have kw4 := kw3.trans (k4.mono hKb)
  have v4 := HV.out.kp kw4 (fun b hb => HV.out.lt hb)
  have H4 := Lib.hid (wreplay_ok h4 v4 (n := 3) (by decide) Wa.r3 (by decide) Wa.rd3)
  have hb4 := heap_lt hl4
  clear H3 hl4 k4 kw3 v3
  go_wp2_with fail
  refine H4.out.mono ?_
  rintro e w5 ⟨A, c, rfl, ht5, _, k5⟩
  have h5 := h4.wide k5
  obtain ⟨K5, e5, q1, q2, q3⟩ : ∃ K5 : Nat → Prop, K5 = (fun x => (x < w.heap.size ∨ x = b) ∨ (w4.heap.size ≤ x ∧ x < w5.heap.size)) ∧ (∀ x, x < w.heap.size → Kb K5 b x) ∧ K5 b ∧ (∀ x, (w4.heap.size ≤ x ∧ x < w5.heap.size) → Kb K5 b x) :=
    ⟨_, rfl, fun x hx => ⟨.inl (.inl hx), by omega⟩, .inl (.inr rfl), fun x hx => ⟨.inr hx, by omega⟩⟩
  rw [← e5] at h5
  clear e5
  have kw5 := kw4.trans (kp_kept k5 (fun b hb => Nat.lt_of_lt_of_le hb kw4.size))
  have hl5 := hl4'.kept k5
  have H5 := Lib.hid (fuse_of h5 1 (by decide) Wa.s4)
  clear H4 h4 h5 hl4' v4
  go_wp2_with fail
  refine H5.out.mono ?_
  rintro e w6 ⟨rfl, ⟨G6, h6⟩, k6⟩
  have ht6 := (ht5.mono q3).kp (k6.mono (fun x hx => hx.1))
  have kw6 := kw5.trans (k6.mono (fun x hx => (q1 x hx).1))
  have hl6 := hl5.kp k6 q2
  have v6 := HV.out.kp kw6 (fun b hb => HV.out.lt hb)
  have H6 := Lib.hid (wadd_lay h6 hl6 q2 v6 (fun k hk => (q1 k (HV.out.lt hk)).1) (by decide) rfl (by decide) ⟨#[99]⟩ (by decide) (by rw [Wa.tot4]; decide) Wa.s5)
  clear H5 h6 hl5 hl6 ht5 k5 kw4 hb4 hvk hKb kw5 k6 hb2
  go_wp2_with fail
  refine H6.out.mono ?_
  rintro e w7 ⟨rfl, ⟨G7, h7⟩, hl7, k7⟩
  have hl7' := hl7.at Wa.l3
  have ht7 := ht6.kp k7
  have kw7 := kw6.trans (k7.mono q1)
  have H7 := Lib.hid (wbroken_any hl7')
  clear H6 hl7 ht6 k7 v6 kw6
  go_wp2_with fail
  refine H7.out.mono ?_
  rintro e w8 ⟨rfl, rfl⟩
  have H8 := Lib.hid (crash_one h7 0 2 Wa.s6)
  clear H7 h7
  go_wp2_with fail
  refine H8.out.mono ?_
  rintro e w8 ⟨rfl, ⟨G8, h8⟩, k8⟩
  have ht8 := ht7.kp (k8.mono (fun x hx => hx.1))
  have kw8 := kw7.trans (k8.mono (fun x hx => (q1 x hx).1))
  have hl8 := hl7'.kp k8 q2
  have v8 := HV.out.kp kw8 (fun b hb => HV.out.lt hb)
  have H9 := Lib.hid (wreplay_ok h8 v8 (n := 3) (by decide) Wa.r6 (by decide) Wa.rd6)
  clear H8 hl7' ht7 k8 kw7
  go_wp2_with fail
  refine H9.out.mono ?_
  rintro e w9 ⟨A9, c9, rfl, _, _, k9⟩
  have h9 := h8.kept k9
  have v9 := v8.kept k9
  have H10 := Lib.hid (wnumbers_one h9 v9 (n := 3) (by decide) rfl)
  clear H9
  go_wp2_with fail
  refine H10.out.mono ?_
  rintro e w10 ⟨bn, cn, rfl, hcn, k10⟩
  have v10 := v9.kept k10
  have H11 := Lib.hid (wnumber_some (n := 12) (by decide) w10 v10)
  rw [Wa.nm12] at H11
  clear H10
  go_wp2_with fail
  refine H11.out.mono ?_
  rintro e w11 ⟨rfl, k11⟩
  have v11 := v10.kept k11
  have H12 := Lib.hid (wnumber_none ⟨#[119, 97, 108, 46, 48, 49, 50]⟩ (by decide) Wa.no012 w11 v11)
  clear H11
  go_wp2_with fail
  refine H12.out.mono ?_
  rintro e w12 ⟨rfl, k12⟩
  have v12 := v11.kept k12
  have H13 := Lib.hid (wcreate_nil 1 w12)
  have kk12 : Kept w8 w12 := kept_trans k9 (kept_trans k10 (kept_trans k11 k12))
  have hcn12 : w12.cell? ⟨bn, 0, none⟩ = some (.int .u64 3) := by
    have := cell_lt hcn
    rw [kept_cell (kept_trans k11 k12) this]; exact hcn
  have ht12 := ht8.kept kk12
  obtain ⟨bm, om, rfl, hKm, hcm⟩ := ht12 1 [98] rfl
  have hcm' : w12.cell? ⟨bm, om + 1, none⟩ = some (.string ⟨#[98]⟩) := hcm
  have h14 := wname_nm (n := 7) (by decide) w12 v12
  rw [Wa.nm7] at h14
  have H14 : Hid (Calls Tryz.prog 39 #[.int .u64 7] w12 fun e w' => e = .returned (.string ⟨#[119, 97, 108, 46, 55]⟩) ∧ Kept w12 w') := Lib.hid h14
  have hl12 := hl8.kept kk12
  have h12 := h8.kept kk12
  have kw12 := kw8.trans (kp_kept kk12 (fun b hb => Nat.lt_of_lt_of_le hb kw8.size))
  clear H12 k9 k10 k11 k12 hcn ht8 ht12 v8 v9 v10 v11 kk12 h8 h9 hl8 kw8 hcm h14 HV q3 hKm
  go_wp2_with fail
  refine H13.out.mono ?_
  rintro e w13 ⟨rfl, rfl⟩
  go_wp2_with fail
  refine H14.out.mono ?_
  rintro e w14 ⟨rfl, k14⟩
  have H15 := Lib.hid (wnum_any (hl12.kept k14))
  go_wp2_with fail
  refine H15.out.mono ?_
  rintro e w15 ⟨rfl, rfl⟩
  have H16 := Lib.hid (wsize_any (hl12.kept k14))
  go_wp2_with fail
  refine H16.out.mono ?_
  rintro e w15 ⟨rfl, rfl⟩
  have H17 := Lib.hid (wremove_any (h12.kept k14) (v12.kept k14) (n := 4) (by decide) (by decide) Wa.rm4)
  go_wp2_with fail
  refine H17.out.mono ?_
  rintro e w16 ⟨rfl, _, k16⟩
  go_wp2_with fail
  go_ret
  have kf := kw12.trans ((kp_kept k14 (fun b hb => Nat.lt_of_lt_of_le hb kw12.size)).trans (k16.mono (fun x hx => (q1 x hx).1)))
  exact ⟨rfl, kf.below (fun i hi => hi)⟩
end Go.Proofs.YtlkcdcpdccmodaaGreatDoor
