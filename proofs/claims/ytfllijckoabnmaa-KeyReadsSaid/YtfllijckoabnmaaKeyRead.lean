/-
  What Unescape, readTime and Read of package key compute, each for every input.
-/
import Derived.Test.YtfllijckoabnmaaKeyFns
namespace Go.Proofs.Ytfllijckoabnmaa
open Go.ChangeShapes Go.WideShapes Go.ChangeAt Go.RowKit
set_option linter.unusedVariables false
set_option maxHeartbeats 400000

/-- bytes that begin with an escaped user's key -/
def Begins (l : List UInt8) : Prop := ∃ u r, l = Ky.esc u ++ r ∧ Ky.may u = true
/-- what was gone through: U is the key so far, o tells whether a byte 0 is open -/
def Gone (l : List UInt8) (k : Nat) (U : List UInt8) (o : Bool) : Prop := l.take k = Ky.escB U ++ (if o then [0] else []) ∧ k ≤ l.length
theorem Gone.zero (l : List UInt8) : Gone l 0 [] false := ⟨rfl, Nat.zero_le _⟩
theorem Gone.len {l : List UInt8} {k : Nat} {U : List UInt8} {o : Bool} (h : Gone l k U o) : U.length ≤ k := by
  have h1 := congrArg List.length h.1
  rw [List.length_take_of_le h.2, List.length_append] at h1
  have := (Ky.escB_len U).1
  omega
theorem Gone.opens {l : List UInt8} {k : Nat} {U : List UInt8} (h : Gone l k U false) (hk : k < l.length) (hc : l.getD k 0 = 0) : Gone l (k + 1) U true := by
  refine ⟨?_, hk⟩
  rw [Nm.take_snoc' l k hk, h.1, hc]; simp
theorem Gone.plain {l : List UInt8} {k : Nat} {U : List UInt8} (h : Gone l k U false) (hk : k < l.length) (hc : l.getD k 0 ≠ 0) : Gone l (k + 1) (U ++ [l.getD k 0]) false := by
  refine ⟨?_, hk⟩
  rw [Nm.take_snoc' l k hk, h.1, Ky.escB_snoc _ _ hc]; simp
theorem Gone.own {l : List UInt8} {k : Nat} {U : List UInt8} (h : Gone l k U true) (hk : k < l.length) (hc : l.getD k 0 = 255) : Gone l (k + 1) (U ++ [0]) false := by
  refine ⟨?_, hk⟩
  rw [Nm.take_snoc' l k hk, h.1, hc, Ky.escB_snoc0]; simp
theorem Gone.ends {l : List UInt8} {k : Nat} {U : List UInt8} (h : Gone l k U true) (hk : k < l.length) (hc : l.getD k 0 = 1) : l = Ky.esc U ++ l.drop (k + 1) := by
  have h1 : l.take (k + 1) = Ky.esc U := by rw [Nm.take_snoc' l k hk, h.1, hc, Ky.esc]; simp
  rw [← h1, List.take_append_drop]
theorem Gone.wrong {l : List UInt8} {k : Nat} {U : List UInt8} (h : Gone l k U true) (hk : k < l.length) (hc : l.getD k 0 ≠ 255) (hd : l.getD k 0 = 1 → Ky.may U = false) : ¬ Begins l := by
  rintro ⟨u, r, e, hm⟩
  have h1 : l.take (k + 1) = Ky.escB U ++ [0, l.getD k 0] := by rw [Nm.take_snoc' l k hk, h.1]; simp
  have h2 : Ky.escB U ++ 0 :: l.getD k 0 :: l.drop (k + 1) = Ky.esc u ++ r := by
    rw [← e]
    conv => rhs; rw [← List.take_append_drop (k + 1) l, h1]
    simp
  obtain ⟨h3, h4, _⟩ := Ky.esc_ends U u _ _ r hc h2
  subst h3
  rw [hd h4] at hm
  exact absurd hm (by decide)
theorem Gone.nothing {l : List UInt8} {k : Nat} {U : List UInt8} {o : Bool} (h : Gone l k U o) (hk : k = 50 ∨ k = l.length) : ¬ Begins l := by
  rintro ⟨u, r, e, hm⟩
  have hl := congrArg List.length h.1
  rw [List.length_take_of_le h.2, List.length_append] at hl
  have := Ky.esc_longer U u (if o then [0] else []) (l.drop k) r (by cases o <;> simp) (by rw [← e, ← List.append_assoc, ← h.1, List.take_append_drop])
  have h50 := (Ky.esc_len_may u hm).2
  have hlen := congrArg List.length e
  rw [List.length_append] at hlen
  omega
/-- what Unescape tells -/
def UnescPost (l : List UInt8) (w : World) (e : Ending) (w' : World) : Prop :=
  ((∃ u r, l = Ky.esc u ++ r ∧ Ky.may u = true ∧ e = .returned (.tuple #[.string (bs u), .string (bs r), .int .i64 0])) ∨ (¬ Begins l ∧ e = .returned (.tuple #[.string (bs []), .string (bs []), .int .i64 2]))) ∧ Kept w w'
theorem u8_is (c : UInt8) (n : Nat) (hn : n < 256) : (((c.toNat : Nat) : Int) == (n : Int)) = (c == n.toUInt8) := by
  rw [Bool.eq_iff_iff, beq_iff_eq, beq_iff_eq, ← UInt8.toNat_inj, Nm.u8_of n hn]
  omega
theorem kunescape_post (s : ByteArray) (hs : s.size ≤ 4096) (w : World) :
    Calls Try.prog 24 #[.string s] w (UnescPost s.data.toList w) := by
  go_enter Try.func24, Try.ntmps24
  go_wp2_with fail
  all_goals
    go_loopw [5, 6, 12] (fun v t i wr => ∃ (k : Nat) (U : List UInt8) (o : Bool), k ≤ 50 ∧ k ≤ s.size ∧ i = .int .i64 k ∧ t = .bool o ∧ wr.ownsRow w.heap.size 5 1 v U.length (cellsOf U) ∧ Kept w wr ∧ Gone s.data.toList k U o) (fun _ _ i _ => 50 - (intOf i).toNat)
    case atStart => exact ⟨0, [], false, by omega, Nat.zero_le _, rfl, rfl, World.ownsRow_nil _ _ _ _, Kept.refl _, Gone.zero _⟩
    case round =>
      obtain ⟨k, U, o, hk5, hks, rfl, rfl, hown, hkw, hG⟩ := hrel
      have HL := Lib.hid (show s.data.toList.length = s.size from by simp)
      have hU := hG.len
      by_cases hlt : k < 50 ∧ k < s.size
      · obtain ⟨hl1, hl2⟩ := hlt
        have hkl : k < s.data.toList.length := by rw [HL.out]; exact hl2
        have HD := Lib.hid (getD_of s k hl2)
        have hc8 := s[k].toNat_lt
        cases o with
        | false =>
          by_cases hz : s[k] = 0
          · have hb : ((s[k].toNat : Int) == 0) = true := by rw [u8_zero]; simp [hz]
            have hG1 := hG.opens hkl (by rw [HD.out]; exact hz)
            clear hz
            go_wp2_with fail
            go_roundw
            case rel => exact ⟨k + 1, U, true, by omega, by omega, by go_num, rfl, hown, hkw, hG1⟩
            case measure => simp [intOf]; omega
          · have hb : ((s[k].toNat : Int) == 0) = false := by rw [u8_zero]; simp [hz]
            have hG1 := hG.plain hkl (by rw [HD.out]; exact hz)
            rw [HD.out] at hG1
            clear hz
            go_wp2_with (at_builtin; refine app_b [s[k]] _ _ _ rfl rfl rfl hown hkw _ rfl rfl rfl (by simp; omega) ?_; intro v1 w1 hown1 hk1; clear hown)
            go_roundw
            case rel => exact ⟨k + 1, U ++ [s[k]], false, by omega, by omega, by go_num, rfl, hown1, hk1, hG1⟩
            case measure => simp [intOf]; omega
        | true =>
          by_cases hz : s[k] = 255
          · have hb : ((s[k].toNat : Int) == 255) = true := by rw [show (255 : Int) = ((255 : Nat) : Int) from rfl, u8_is _ _ (by omega)]; simp [hz]
            have hG1 := hG.own hkl (by rw [HD.out]; exact hz)
            clear hz
            go_wp2_with (at_builtin; refine app_b [0] _ _ _ rfl rfl rfl hown hkw _ rfl rfl rfl (by simp; omega) ?_; intro v1 w1 hown1 hk1; clear hown)
            go_roundw
            case rel => exact ⟨k + 1, U ++ [0], false, by omega, by omega, by go_num, rfl, hown1, hk1, hG1⟩
            case measure => simp [intOf]; omega
          · have hb : ((s[k].toNat : Int) == 255) = false := by rw [show (255 : Int) = ((255 : Nat) : Int) from rfl, u8_is _ _ (by omega)]; simp [hz]
            by_cases ho : s[k] = 1
            · have hb1 : ((s[k].toNat : Int) == 1) = true := by rw [show (1 : Int) = ((1 : Nat) : Int) from rfl, u8_is _ _ (by omega)]; simp [ho]
              have hcv := conv_owned hown
              rcases Bool.eq_false_or_eq_true (Ky.may U) with hm | hm
              · have HE := Lib.hid (hG.ends hkl (by rw [HD.out]; exact ho))
                have HM := Lib.hid hm
                have hsz : (bs U).size ≤ maxLen := by rw [bs_size]; unfold maxLen; omega
                have hcn := fun n => conv_owned (w := wr.drewN n) hown
                clear hz ho hm
                go_wp2_with fail
                refine (kmay_any (bs U) hsz _).mono ?_; rintro e w1 ⟨rfl, rfl⟩; rw [bs_data, HM.out]
                go_wp2_with fail
                go_quiet (fail)
                go_wp2_with fail
                go_ret3
                rw [extract_end]
                exact ⟨.inl ⟨U, _, HE.out, HM.out, rfl⟩, kept_trans hkw (kept_drewN _ _)⟩
              · have HN := Lib.hid (hG.wrong hkl (by rw [HD.out]; exact hz) (fun _ => hm))
                have HM := Lib.hid hm
                have hsz : (bs U).size ≤ maxLen := by rw [bs_size]; unfold maxLen; omega
                clear hz ho hm
                go_wp2_with fail
                refine (kmay_any (bs U) hsz _).mono ?_; rintro e w1 ⟨rfl, rfl⟩; rw [bs_data, HM.out]
                go_wp2_with fail
                go_ret3
                exact ⟨.inr ⟨HN.out, rfl⟩, hkw⟩
            · have hb1 : ((s[k].toNat : Int) == 1) = false := by rw [show (1 : Int) = ((1 : Nat) : Int) from rfl, u8_is _ _ (by omega)]; simp [ho]
              have HN := Lib.hid (hG.wrong hkl (by rw [HD.out]; exact hz) (fun h => absurd (HD.out ▸ h) ho))
              clear hz ho
              go_wp2_with fail
              go_ret3
              exact ⟨.inr ⟨HN.out, rfl⟩, hkw⟩
      · have HN := Lib.hid (hG.nothing (by rw [HL.out]; omega))
        go_wp2_with fail
        all_goals
          go_ret3
          exact ⟨.inr ⟨HN.out, rfl⟩, hkw⟩
theorem kunescape_yes (s : ByteArray) (u r : List UInt8) (hs : s.size ≤ 4096) (h : s.data.toList = Ky.esc u ++ r) (hm : Ky.may u = true) (w : World) :
    Calls Try.prog 24 #[.string s] w fun e w' => e = .returned (.tuple #[.string (bs u), .string (bs r), .int .i64 0]) ∧ Kept w w' := by
  refine (kunescape_post s hs w).mono ?_
  rintro e w' ⟨⟨u', r', h', _, he⟩ | ⟨hn, _⟩, hk⟩
  · obtain ⟨rfl, rfl⟩ := Ky.esc_inj (h.symm.trans h')
    exact ⟨he, hk⟩
  · exact absurd ⟨u, r, h, hm⟩ hn
theorem kunescape_no (s : ByteArray) (hs : s.size ≤ 4096) (h : ¬ Begins s.data.toList) (w : World) :
    Calls Try.prog 24 #[.string s] w fun e w' => e = .returned (.tuple #[.string (bs []), .string (bs []), .int .i64 2]) ∧ Kept w w' := by
  refine (kunescape_post s hs w).mono ?_
  rintro e w' ⟨⟨u', r', h', hm, he⟩ | ⟨hn, he⟩, hk⟩
  · exact absurd ⟨u', r', h', hm⟩ h
  · exact ⟨he, hk⟩
/-- bytes that are a time of a family's keys -/
def TimeOf (c : Int) (l : List UInt8) (t : Int) : Prop := l = Ky.tailS c t ∧ 0 ≤ t ∧ t ≤ Ky.lastT c
theorem ktime_yes (c : Int) (s : ByteArray) (t : Int) (hs : s.size ≤ maxLen) (h : TimeOf c s.data.toList t) (w : World) :
    Calls Try.prog 33 #[.int .i64 c, .string s] w fun e w' => e = .returned (.tuple #[.int .u64 t, .bool true]) ∧ w = w' := by
  obtain ⟨h1, h2, h3⟩ := h
  by_cases hc : c = 1
  · have hb : (c != 1) = false := by simp [hc]
    have e1 : s.data.toList = [] := by rw [h1]; unfold Ky.tailS; rw [if_pos hc]
    have e2 : t = 0 := by unfold Ky.lastT at h3; rw [if_pos hc] at h3; omega
    subst e2
    obtain rfl : s = bs [] := bs_of e1
    clear e1 h1 h2 h3 hc hs
    go_enter Try.func33, Try.ntmps33
    go_wp2_with fail
    refine (ktimed_any c _).mono ?_; rintro e w1 ⟨rfl, rfl⟩
    go_wp2_with fail
    go_ret2
    exact ⟨ret_unl rfl (by rw [Lib.toList_data]; rfl), rfl⟩
  · have hb : (c != 1) = true := by simp [hc]
    have e1 : s.data.toList = Nm.fall t.toNat := by rw [h1]; unfold Ky.tailS; rw [if_neg hc]
    obtain ⟨lb0, lb1⟩ := Ky.lastT_bd c
    have HU := Lib.hid (show ((Nm.unf s.data.toList : Nat) : Int) = t from by rw [e1, Ky.unf_fall _ (by omega)]; omega)
    have HB := Lib.hid (show Nm.unlB s.data.toList = true from by rw [e1]; exact Nm.unlB_long _)
    clear e1 h1 hc
    go_enter Try.func33, Try.ntmps33
    go_wp2_with fail
    refine (ktimed_any c _).mono ?_; rintro e w1 ⟨rfl, rfl⟩
    go_wp2_with fail
    refine (unfall_any s hs _).mono ?_; rintro e w1 ⟨rfl, rfl⟩; rw [HU.out, HB.out]
    go_wp2_with fail
    refine (klast_any c _).mono ?_; rintro e w1 ⟨rfl, rfl⟩
    go_wp2_with fail
    go_ret2
    exact ⟨rfl, rfl⟩
theorem ktime_no (c : Int) (s : ByteArray) (hs : s.size ≤ maxLen) (h : ¬ ∃ t, TimeOf c s.data.toList t) (w : World) :
    Calls Try.prog 33 #[.int .i64 c, .string s] w fun e w' => e = .returned (.tuple #[.int .u64 0, .bool false]) ∧ w = w' := by
  by_cases hc : c = 1
  · have hb : (c != 1) = false := by simp [hc]
    have e1 : s.data.toList ≠ [] := fun e => h ⟨0, by rw [e]; unfold Ky.tailS; rw [if_pos hc], by omega, (Ky.lastT_bd c).1⟩
    have HE := Lib.hid e1
    clear e1 h hc
    go_enter Try.func33, Try.ntmps33
    go_wp2_with fail
    refine (ktimed_any c _).mono ?_; rintro e w1 ⟨rfl, rfl⟩
    go_wp2_with fail
    go_ret2
    refine ⟨ret_unl rfl ?_, rfl⟩
    have := HE.out
    rw [← Lib.toList_data] at this
    simpa using this
  · have hb : (c != 1) = true := by simp [hc]
    rcases Bool.eq_false_or_eq_true (Nm.unlB s.data.toList) with h8 | h8
    · have h8' : s.data.toList.length = 8 := by unfold Nm.unlB at h8; simpa using h8
      have hgt : ¬ ((Nm.unf s.data.toList : Nat) : Int) ≤ Ky.lastT c := fun hle => h ⟨((Nm.unf s.data.toList : Nat) : Int), by unfold Ky.tailS; rw [if_neg hc, Int.toNat_natCast, Ky.fall_unf _ h8'], by omega, hle⟩
      obtain ⟨lb0, lb1⟩ := Ky.lastT_bd c
      have hub := Ky.unf_le s.data.toList
      have HC := Lib.hid (unfall_any s hs)
      have HB := Lib.hid h8
      clear h8 h8' h hc
      generalize Nm.unf s.data.toList = x at *
      go_enter Try.func33, Try.ntmps33
      go_wp2_with fail
      refine (ktimed_any c _).mono ?_; rintro e w1 ⟨rfl, rfl⟩
      go_wp2_with fail
      refine (HC.out _).mono ?_; rintro e w1 ⟨rfl, rfl⟩; rw [HB.out]
      go_wp2_with fail
      refine (klast_any c _).mono ?_; rintro e w1 ⟨rfl, rfl⟩
      go_wp2_with fail
      go_ret2
      exact ⟨rfl, rfl⟩
    · have HC := Lib.hid (unfall_any s hs)
      have HB := Lib.hid h8
      clear h8 h hc
      generalize Nm.unf s.data.toList = x at *
      go_enter Try.func33, Try.ntmps33
      go_wp2_with fail
      refine (ktimed_any c _).mono ?_; rintro e w1 ⟨rfl, rfl⟩
      go_wp2_with fail
      refine (HC.out _).mono ?_; rintro e w1 ⟨rfl, rfl⟩; rw [HB.out]
      go_wp2_with fail
      go_ret2
      exact ⟨rfl, rfl⟩
end Go.Proofs.Ytfllijckoabnmaa
