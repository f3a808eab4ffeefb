/-
  What the document's own answers for keys (package screeref02) compute: May, Escape, First, Behind, Make: the same as the program's functions.
-/
import Derived.Test.YtfllijckoabnmaaKeyRead2
namespace Go.Proofs.Ytfllijckoabnmaa
open Go.ChangeShapes Go.WideShapes Go.ChangeAt Go.RowKit
set_option linter.unusedVariables false
set_option maxHeartbeats 400000

theorem rkmay_any (s : ByteArray) (hs : s.size ≤ maxLen) (w : World) :
    Calls Try.prog 15 #[.string s] w fun e w' => e = .returned (.bool (Ky.may s.data.toList)) ∧ w = w' := by
  have hl : s.data.toList.length = s.size := by simp
  unfold maxLen at hs
  have HM := Lib.hid (show Ky.may s.data.toList = decide (1 ≤ s.size ∧ s.size ≤ 24) from by unfold Ky.may; rw [hl])
  clear hl
  by_cases h1 : 1 ≤ s.size
  · by_cases h2 : s.size ≤ 24
    · go_enter Try.func15, Try.ntmps15
      go_wp2
      go_ret
      exact ⟨ret_bool (by rw [HM.out, Bool.eq_iff_iff]; simp <;> omega), rfl⟩
    · go_enter Try.func15, Try.ntmps15
      go_wp2
      go_ret
      exact ⟨ret_bool (by rw [HM.out, Bool.eq_iff_iff]; simp <;> omega), rfl⟩
  · go_enter Try.func15, Try.ntmps15
    go_wp2
    go_ret
    exact ⟨ret_bool (by rw [HM.out, Bool.eq_iff_iff]; simp <;> omega), rfl⟩
theorem own_lit0 (w : World) : (w.alloc (.cells #[] 5)).ownsRow w.heap.size 5 1 (.slice (some ⟨w.heap.size, 0, none⟩) 0 0) ([] : List UInt8).length (cellsOf []) :=
  World.ownsRow_lit (base := w.heap.size) (e := 5) (size := 1) w #[] 0 (Nat.le_refl _) (by unfold maxLen; omega) rfl
theorem rkescape_yes (s : ByteArray) (hm : Ky.may s.data.toList = true) (w : World) :
    Calls Try.prog 21 #[.string s] w fun e w' => e = .returned (.tuple #[.string (bs (Ky.esc s.data.toList)), .int .i64 0]) ∧ Kept w w' := by
  have hl : s.data.toList.length = s.size := by simp
  have hb := Ky.may_bd hm
  rw [hl] at hb
  obtain ⟨hb1, hb2⟩ := hb
  have hmax : s.size ≤ maxLen := by unfold maxLen; omega
  have HM := Lib.hid hm; clear hm hl
  go_enter Try.func21, Try.ntmps21
  go_wp2_with fail
  refine (rkmay_any s hmax _).mono ?_; rintro e w1 ⟨rfl, rfl⟩; rw [HM.out]
  go_wp2_with fail
  go_loopw [4, 5] (fun v i wr => ∃ k : Nat, k ≤ s.size ∧ i = .int .i64 k ∧ wr.ownsRow w.heap.size 5 1 v (Ky.escB (s.data.toList.take k)).length (cellsOf (Ky.escB (s.data.toList.take k))) ∧ Kept w wr) (fun _ i _ => s.size - (intOf i).toNat)
  case atStart => exact ⟨0, Nat.zero_le _, rfl, own_lit0 w, (Kept.refl _).alloc _⟩
  case round =>
    obtain ⟨k, hk, rfl, hown, hkw⟩ := hrel
    by_cases hlt : k < s.size
    · have HT := Lib.hid (take_snoc s k hlt)
      have hlen := escB_take_len s k hk
      by_cases hz : s[k] = 0
      · have hb : ((s[k].toNat : Int) == 0) = true := by rw [u8_zero]; simp [hz]
        have HZ := Lib.hid (show Ky.escB (s.data.toList.take (k + 1)) = Ky.escB (s.data.toList.take k) ++ [s[k]] ++ [255] from by rw [HT.out, hz, Ky.escB_snoc0]; simp)
        clear hz
        go_wp2_with (first | (at_builtin; refine app_b [s[k]] _ _ _ rfl rfl rfl hown hkw _ rfl rfl rfl (by simp; omega) ?_; intro v1 w1 hown1 hk1; clear hown) | (at_builtin; refine app_b [255] _ _ _ rfl rfl rfl hown1 hk1 _ rfl rfl rfl (by simp; omega) ?_; intro v2 w2 hown2 hk2))
        go_roundw
        case rel => exact ⟨k + 1, by omega, by go_num, by rw [HZ.out]; exact hown2, hk2⟩
        case measure => simp [intOf]; omega
      · have hb : ((s[k].toNat : Int) == 0) = false := by rw [u8_zero]; simp [hz]
        have HZ := Lib.hid (show Ky.escB (s.data.toList.take (k + 1)) = Ky.escB (s.data.toList.take k) ++ [s[k]] from by rw [HT.out, Ky.escB_snoc _ _ hz])
        clear hz
        go_wp2_with (at_builtin; refine app_b [s[k]] _ _ _ rfl rfl rfl hown hkw _ rfl rfl rfl (by simp; omega) ?_; intro v1 w1 hown1 hk1; clear hown)
        go_roundw
        case rel => exact ⟨k + 1, by omega, by go_num, by rw [HZ.out]; exact hown1, hk1⟩
        case measure => simp [intOf]; omega
    · have hlen := escB_take_len s k hk
      go_wp2_with (at_builtin; refine app_b [0, 1] _ _ _ rfl rfl rfl hown hkw _ rfl rfl rfl (by simp; omega) ?_; intro v1 w1 hown1 hk1; clear hown)
      rw [conv_owned hown1]
      go_wp2_with fail
      go_ret2
      rw [take_all s k (by omega)]
      exact ⟨rfl, hk1⟩
theorem rkescape_no (s : ByteArray) (hs : s.size ≤ maxLen) (hm : Ky.may s.data.toList = false) (w : World) :
    Calls Try.prog 21 #[.string s] w fun e w' => e = .returned (.tuple #[.string (bs []), .int .i64 20]) ∧ Kept w w' := by
  have HM := Lib.hid hm; clear hm
  go_enter Try.func21, Try.ntmps21
  go_wp2_with fail
  refine (rkmay_any s hs _).mono ?_; rintro e w1 ⟨rfl, rfl⟩; rw [HM.out]
  go_wp2_with fail
  go_ret2
  exact ⟨rfl, Kept.refl _⟩
theorem rkfirst_yes (c : Int) (s : ByteArray) (hf : Ky.okF c = true) (hm : Ky.may s.data.toList = true) (w : World) :
    Calls Try.prog 17 #[.int .i64 c, .string s] w fun e w' => e = .returned (.tuple #[.string (bs (Ky.fst c s.data.toList)), .int .i64 0]) ∧ Kept w w' := by
  obtain ⟨h1, h2⟩ := Ky.okF_bd hf
  have z1 : (bs [Ky.cfb c]).size ≤ 1 := by rw [bs_size]; simp
  have z2 : (bs (Ky.esc s.data.toList)).size ≤ 50 := by rw [bs_size]; exact (Ky.esc_len_may _ hm).2
  have q1 : decide (c < 1) = false := by simp; omega
  have q2 : decide (4 < c) = false := by simp; omega
  have hw8 : IntKind.u8.wrap c = c := by rw [IntKind.wrap_u8]; omega
  have HC := Lib.hid (fun W : World => conv_row W [Ky.cfb c] #[.int .u8 c] 5 1 1 rfl (by simp [Ky.cfb_toNat hf]))
  have HM := Lib.hid hm; clear hm hf
  go_enter Try.func17, Try.ntmps17
  go_wp2_with fail
  refine (rkescape_yes s HM.out _).mono ?_; rintro e w2 ⟨rfl, g2⟩
  have hcv := HC.out w2
  go_wp2_with fail
  go_ret2
  rw [bs_app]
  exact ⟨rfl, kept_trans g2 ((Kept.refl _).alloc _)⟩
theorem rkfirst_cf (c : Int) (s : ByteArray) (hf : Ky.okF c = false) (w : World) :
    Calls Try.prog 17 #[.int .i64 c, .string s] w fun e w' => e = .returned (.tuple #[.string (bs []), .int .i64 1]) ∧ Kept w w' := by
  have hn : ¬ (1 ≤ c ∧ c ≤ 4) := by unfold Ky.okF at hf; simpa using hf
  clear hf
  by_cases h1 : c < 1
  · have q1 : decide (c < 1) = true := decide_eq_true h1
    clear hn h1
    go_enter Try.func17, Try.ntmps17
    go_wp2_with fail
    go_ret2
    exact ⟨rfl, Kept.refl _⟩
  · have q1 : decide (c < 1) = false := decide_eq_false h1
    have q2 : decide (4 < c) = true := by simp; omega
    clear hn h1
    go_enter Try.func17, Try.ntmps17
    go_wp2_with fail
    go_ret2
    exact ⟨rfl, Kept.refl _⟩
theorem rkfirst_key (c : Int) (s : ByteArray) (hs : s.size ≤ maxLen) (hf : Ky.okF c = true) (hm : Ky.may s.data.toList = false) (w : World) :
    Calls Try.prog 17 #[.int .i64 c, .string s] w fun e w' => e = .returned (.tuple #[.string (bs []), .int .i64 20]) ∧ Kept w w' := by
  obtain ⟨h1, h2⟩ := Ky.okF_bd hf
  have q1 : decide (c < 1) = false := by simp; omega
  have q2 : decide (4 < c) = false := by simp; omega
  have HM := Lib.hid hm; clear hm hf
  go_enter Try.func17, Try.ntmps17
  go_wp2_with fail
  refine (rkescape_no s hs HM.out _).mono ?_; rintro e w2 ⟨rfl, g2⟩
  go_wp2_with fail
  go_ret2
  exact ⟨rfl, g2⟩
theorem rkfirst_any (c : Int) (s : ByteArray) (hs : s.size ≤ maxLen) (w : World) :
    Calls Try.prog 17 #[.int .i64 c, .string s] w fun e w' => e = .returned (.tuple #[.string (bs (Ky.firstS c s.data.toList)), .int .i64 (Ky.firstE c s.data.toList)]) ∧ Kept w w' := by
  unfold Ky.firstS Ky.firstE
  rcases Bool.eq_false_or_eq_true (Ky.okF c) with hf | hf
  · rcases Bool.eq_false_or_eq_true (Ky.may s.data.toList) with hm | hm
    · rw [hf, hm]; exact rkfirst_yes c s hf hm w
    · rw [hf, hm]; exact rkfirst_key c s hs hf hm w
  · rw [hf]; exact rkfirst_cf c s hf w
theorem beh_of (c : Int) (u : List UInt8) : (bs (Ky.fst c u)).extract 0 ((bs (Ky.fst c u)).size - 1) ++ ⟨#[2]⟩ = bs (Ky.beh c u) := by
  refine bs_of ?_
  rw [ByteArray.data_append, Array.toList_append, Lib.extract_data, bs_data, bs_size]
  have e1 : Ky.fst c u = (Ky.cfb c :: (Ky.escB u ++ [0])) ++ [1] := by simp [Ky.fst, Ky.esc]
  have e2 : Ky.beh c u = (Ky.cfb c :: (Ky.escB u ++ [0])) ++ [2] := by simp [Ky.beh]
  rw [e1, e2, List.length_append, List.drop_zero, List.length_singleton, Nat.add_sub_cancel, Nat.sub_zero, List.take_left]
theorem rkbehind_any (c : Int) (s : ByteArray) (hs : s.size ≤ maxLen) (w : World) :
    Calls Try.prog 19 #[.int .i64 c, .string s] w fun e w' => e = .returned (.tuple #[.string (bs (Ky.behS c s.data.toList)), .int .i64 (Ky.firstE c s.data.toList)]) ∧ Kept w w' := by
  by_cases h : Ky.okF c = true ∧ Ky.may s.data.toList = true
  · obtain ⟨hf, hm⟩ := h
    have HB := Lib.hid (beh_of c s.data.toList)
    have z1 : (bs (Ky.fst c s.data.toList)).size ≤ 51 := by rw [bs_size, Ky.fst, List.length_cons]; have := (Ky.esc_len_may _ hm).2; omega
    have z0 : 1 ≤ (bs (Ky.fst c s.data.toList)).size := by rw [bs_size, Ky.fst, List.length_cons]; omega
    have z2 : ((bs (Ky.fst c s.data.toList)).extract 0 ((bs (Ky.fst c s.data.toList)).size - 1)).size ≤ 51 := by rw [ByteArray.size_extract]; omega
    have e1 : Ky.behS c s.data.toList = Ky.beh c s.data.toList := by unfold Ky.behS; rw [hf, hm]; rfl
    have e2 : Ky.firstE c s.data.toList = 0 := by unfold Ky.firstE; rw [hf, hm]; rfl
    rw [e1, e2]
    clear e1 e2
    have HF := Lib.hid (rkfirst_yes c s hf hm); clear hf hm
    generalize Ky.fst c s.data.toList = F at *
    go_enter Try.func19, Try.ntmps19
    go_wp2_with fail
    refine (HF.out _).mono ?_; rintro e w1 ⟨rfl, g1⟩
    go_wp2_with fail
    go_ret2
    rw [HB.out]
    exact ⟨rfl, g1⟩
  · obtain ⟨e1, e2, e3⟩ := firstE_no h
    have e4 : Ky.behS c s.data.toList = [] := by unfold Ky.behS; rw [if_neg (by simpa using h)]
    rw [e4]
    have HC := Lib.hid (rkfirst_any c s hs)
    have HS := Lib.hid e2
    clear e2 e3 e4 h
    generalize Ky.firstE c s.data.toList = x at *
    go_enter Try.func19, Try.ntmps19
    go_wp2_with fail
    refine (HC.out _).mono ?_; rintro e w1 ⟨rfl, g1⟩; rw [HS.out]
    go_wp2_with fail
    go_ret2
    exact ⟨rfl, g1⟩
theorem rkmake_bad (c : Int) (s : ByteArray) (t : Int) (F : List UInt8) (q : decide (1099511627776 < t) = true ∨ (decide (1099511627776 < t) = false ∧ (c == 1) = true ∧ decide (0 < t) = true)) (t0 : 0 ≤ t) (t1 : t ≤ 18446744073709551615)
    (HC : Hid (∀ w, Calls Try.prog 17 #[.int .i64 c, .string s] w fun e w' => e = .returned (.tuple #[.string (bs F), .int .i64 0]) ∧ Kept w w')) (w : World) :
    Calls Try.prog 12 #[.agg #[.int .i64 c, .string s, .int .u64 t]] w fun e w' => e = .returned (.tuple #[.string (bs []), .int .i64 3]) ∧ Kept w w' := by
  rcases q with q | ⟨q, q2, q3⟩
  all_goals
    go_enter Try.func12, Try.ntmps12
    go_wp2_with fail
    refine (HC.out _).mono ?_; rintro e w1 ⟨rfl, g1⟩
    obtain ⟨⟨c0, c1, c2⟩, f0, f1, f2⟩ := three g1
    go_wp2_with fail
    go_ret2
    exact ⟨rfl, kept_trans ((Kept.refl _).alloc _) g1⟩
theorem rkmake_lock (c : Int) (s : ByteArray) (t : Int) (F : List UInt8) (q : decide (1099511627776 < t) = false) (q2 : (c == 1) = true) (q4 : (c != 1) = false) (q3 : decide (0 < t) = false) (t0 : 0 ≤ t) (t1 : t ≤ 18446744073709551615)
    (HC : Hid (∀ w, Calls Try.prog 17 #[.int .i64 c, .string s] w fun e w' => e = .returned (.tuple #[.string (bs F), .int .i64 0]) ∧ Kept w w')) (w : World) :
    Calls Try.prog 12 #[.agg #[.int .i64 c, .string s, .int .u64 t]] w fun e w' => e = .returned (.tuple #[.string (bs F), .int .i64 0]) ∧ Kept w w' := by
  go_enter Try.func12, Try.ntmps12
  go_wp2_with fail
  refine (HC.out _).mono ?_; rintro e w1 ⟨rfl, g1⟩
  obtain ⟨⟨c0, c1, c2⟩, f0, f1, f2⟩ := three g1
  go_wp2_with fail
  go_ret2
  exact ⟨rfl, kept_trans ((Kept.refl _).alloc _) g1⟩
theorem rkmake_time (c : Int) (s : ByteArray) (t : Int) (F : List UInt8) (q : decide (1099511627776 < t) = false) (q2 : (c == 1) = false) (q4 : (c != 1) = true) (t0 : 0 ≤ t) (t1 : t ≤ 18446744073709551615) (z1 : (bs F).size ≤ 51) (z2 : (bs (Nm.fall t.toNat)).size ≤ 8)
    (HC : Hid (∀ w, Calls Try.prog 17 #[.int .i64 c, .string s] w fun e w' => e = .returned (.tuple #[.string (bs F), .int .i64 0]) ∧ Kept w w')) (w : World) :
    Calls Try.prog 12 #[.agg #[.int .i64 c, .string s, .int .u64 t]] w fun e w' => e = .returned (.tuple #[.string (bs (F ++ Nm.fall t.toNat)), .int .i64 0]) ∧ Kept w w' := by
  go_enter Try.func12, Try.ntmps12
  go_wp2_with fail
  refine (HC.out _).mono ?_; rintro e w1 ⟨rfl, g1⟩
  obtain ⟨⟨c0, c1, c2⟩, f0, f1, f2⟩ := three g1
  go_wp2_with fail
  refine (rfall_any t t0 t1 _).mono ?_; rintro e w2 ⟨rfl, g2⟩
  go_wp2_with fail
  go_ret2
  rw [bs_app]
  exact ⟨rfl, kept_trans ((Kept.refl _).alloc _) (kept_trans g1 g2)⟩
theorem rkmake_first (c : Int) (s : ByteArray) (t : Int) (x : Int) (hx : (x != 0) = true)
    (HC : Hid (∀ w, Calls Try.prog 17 #[.int .i64 c, .string s] w fun e w' => e = .returned (.tuple #[.string (bs []), .int .i64 x]) ∧ Kept w w')) (w : World) :
    Calls Try.prog 12 #[.agg #[.int .i64 c, .string s, .int .u64 t]] w fun e w' => e = .returned (.tuple #[.string (bs []), .int .i64 x]) ∧ Kept w w' := by
  go_enter Try.func12, Try.ntmps12
  go_wp2_with fail
  refine (HC.out _).mono ?_; rintro e w1 ⟨rfl, g1⟩
  go_wp2_with fail
  go_ret2
  exact ⟨rfl, kept_trans ((Kept.refl _).alloc _) g1⟩
theorem rkmake_any (c : Int) (s : ByteArray) (t : Int) (hs : s.size ≤ maxLen) (t0 : 0 ≤ t) (t1 : t ≤ 18446744073709551615) (w : World) :
    Calls Try.prog 12 #[.agg #[.int .i64 c, .string s, .int .u64 t]] w fun e w' => e = .returned (.tuple #[.string (bs (Ky.makeS c s.data.toList t)), .int .i64 (Ky.makeE c s.data.toList t)]) ∧ Kept w w' := by
  by_cases h : Ky.okF c = true ∧ Ky.may s.data.toList = true
  · obtain ⟨hf, hm⟩ := h
    have HC := rkfirst_yes c s hf hm
    by_cases hr : t ≤ Ky.lastT c
    · rw [Ky.makeS_ok ⟨hf, hm, t0, hr⟩, Ky.makeE_ok ⟨hf, hm, t0, hr⟩, Ky.mk]
      have hr2 := hr
      have hb := Ky.lastT_bd c
      have q : decide (1099511627776 < t) = false := by simp; omega
      unfold Ky.tailS
      unfold Ky.lastT at hr
      by_cases hc : c = 1
      · rw [if_pos hc] at hr
        rw [if_pos hc, List.append_nil]
        exact rkmake_lock c s t _ q (by simp [hc]) (by simp [hc]) (by simp; omega) t0 t1 HC w
      · rw [if_neg hc]
        exact rkmake_time c s t _ q (by simp [hc]) (by simp [hc]) t0 t1 (by rw [bs_size, Ky.fst, List.length_cons]; have := (Ky.esc_len_may _ hm).2; omega) (by rw [bs_size]; exact Nat.le_of_eq (Nm.long_len _)) HC w
    · rw [Ky.makeS_no t0 (fun h => hr h.2.2.2), show Ky.makeE c s.data.toList t = 3 from by unfold Ky.makeE; rw [if_pos hf, if_pos hm, if_neg hr]]
      refine rkmake_bad c s t _ ?_ t0 t1 HC w
      unfold Ky.lastT at hr
      by_cases hbig : 1099511627776 < t
      · exact .inl (decide_eq_true hbig)
      · refine .inr ⟨decide_eq_false hbig, ?_⟩
        split at hr
        · rename_i hc
          exact ⟨by simp [hc], by simp; omega⟩
        · omega
  · obtain ⟨e1, e2, e3⟩ := firstE_no h
    obtain ⟨e4, e5⟩ := e3 t
    rw [e4, e5]
    have HC := rkfirst_any c s hs
    rw [e2] at HC
    exact rkmake_first c s t _ e1 HC w
theorem own_any (c : Int) (s : ByteArray) (t : Int) (w : World) :
    Calls Try.prog 13 #[.agg #[.int .i64 c, .string s, .int .u64 t]] w fun e w' => e = .returned (.agg #[.int .i64 c, .string s, .int .u64 t]) ∧ Kept w w' := by
  go_enter Try.func13, Try.ntmps13
  go_wp2_with fail
  refine bodyPost_ret (v := .agg #[.int .i64 c, .string s, .int .u64 t]) (by simp [results, Try.results13, go_sem]) rfl ⟨rfl, ?_⟩
  exact ((Kept.refl _).alloc _).alloc _
end Go.Proofs.Ytfllijckoabnmaa
