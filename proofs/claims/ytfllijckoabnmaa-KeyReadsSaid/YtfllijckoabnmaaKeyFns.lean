/-
  What the functions of package key compute, each for every input: May, isFamily, timed, lastTime, Escape, raised, Family, First, Behind, Make.
-/
import Derived.Test.YtfllijckoabnmaaBytes
import Derived.Test.YtfllijckoabnmaaKeyMath
namespace Go.Proofs.Ytfllijckoabnmaa
open Go.ChangeShapes Go.WideShapes Go.ChangeAt Go.RowKit
set_option linter.unusedVariables false
set_option maxHeartbeats 400000

theorem kmay_any (s : ByteArray) (hs : s.size ≤ maxLen) (w : World) :
    Calls Try.prog 14 #[.string s] w fun e w' => e = .returned (.bool (Ky.may s.data.toList)) ∧ w = w' := by
  have hl : s.data.toList.length = s.size := by simp
  unfold maxLen at hs
  have HM := Lib.hid (show Ky.may s.data.toList = decide (1 ≤ s.size ∧ s.size ≤ 24) from by unfold Ky.may; rw [hl])
  clear hl
  by_cases h1 : 1 ≤ s.size
  · by_cases h2 : s.size ≤ 24
    · go_enter Try.func14, Try.ntmps14
      go_wp2
      go_ret
      exact ⟨ret_bool (by rw [HM.out, Bool.eq_iff_iff]; simp <;> omega), rfl⟩
    · go_enter Try.func14, Try.ntmps14
      go_wp2
      go_ret
      exact ⟨ret_bool (by rw [HM.out, Bool.eq_iff_iff]; simp <;> omega), rfl⟩
  · go_enter Try.func14, Try.ntmps14
    go_wp2
    go_ret
    exact ⟨ret_bool (by rw [HM.out, Bool.eq_iff_iff]; simp <;> omega), rfl⟩
theorem kfam_any (c : Int) (w : World) :
    Calls Try.prog 32 #[.int .i64 c] w fun e w' => e = .returned (.bool (Ky.okF c)) ∧ w = w' := by
  have HM := Lib.hid (show Ky.okF c = decide (1 ≤ c ∧ c ≤ 4) from rfl)
  by_cases h1 : 1 ≤ c
  · by_cases h2 : c ≤ 4
    · go_enter Try.func32, Try.ntmps32
      go_wp2
      go_ret
      exact ⟨ret_bool (by rw [HM.out, Bool.eq_iff_iff]; simp <;> omega), rfl⟩
    · go_enter Try.func32, Try.ntmps32
      go_wp2
      go_ret
      exact ⟨ret_bool (by rw [HM.out, Bool.eq_iff_iff]; simp <;> omega), rfl⟩
  · go_enter Try.func32, Try.ntmps32
    go_wp2
    go_ret
    exact ⟨ret_bool (by rw [HM.out, Bool.eq_iff_iff]; simp <;> omega), rfl⟩
theorem ktimed_any (c : Int) (w : World) :
    Calls Try.prog 28 #[.int .i64 c] w fun e w' => e = .returned (.bool (c != 1)) ∧ w = w' := by
  go_enter Try.func28, Try.ntmps28
  go_wp2
  go_ret
  exact ⟨rfl, rfl⟩
theorem klast_any (c : Int) (w : World) :
    Calls Try.prog 27 #[.int .i64 c] w fun e w' => e = .returned (.int .u64 (Ky.lastT c)) ∧ w = w' := by
  by_cases h : c = 1
  · have hb : (c != 1) = false := by simp [h]
    have H := Lib.hid h; clear h
    go_enter Try.func27, Try.ntmps27
    go_wp2_with fail
    refine (ktimed_any c _).mono ?_; rintro e w1 ⟨rfl, rfl⟩
    go_wp2_with fail
    go_ret
    exact ⟨ret_int (by unfold Ky.lastT; rw [if_pos H.out]), rfl⟩
  · have hb : (c != 1) = true := by rw [bne_iff_ne]; exact h
    have H := Lib.hid h; clear h
    go_enter Try.func27, Try.ntmps27
    go_wp2_with fail
    refine (ktimed_any c _).mono ?_; rintro e w1 ⟨rfl, rfl⟩
    go_wp2_with fail
    go_ret
    exact ⟨ret_int (by unfold Ky.lastT; rw [if_neg H.out]), rfl⟩
theorem take_snoc (s : ByteArray) (k : Nat) (h : k < s.size) : s.data.toList.take (k + 1) = s.data.toList.take k ++ [s[k]] := by
  rw [List.take_succ_eq_append_getElem (by simpa using h)]; rfl
theorem take_all (s : ByteArray) (k : Nat) (h : s.size ≤ k) : s.data.toList.take k = s.data.toList := List.take_of_length_le (by simpa using h)
theorem escB_take_len (s : ByteArray) (k : Nat) (h : k ≤ s.size) : (Ky.escB (s.data.toList.take k)).length ≤ 2 * k := by
  have := (Ky.escB_len (s.data.toList.take k)).2
  rw [List.length_take_of_le (by simpa using h)] at this
  exact this
theorem ret_se {a b : List UInt8} {x y : Int} (h1 : a = b) (h2 : x = y) : Ending.returned (.tuple #[.string (bs a), .int .i64 x]) = .returned (.tuple #[.string (bs b), .int .i64 y]) := by rw [h1, h2]
theorem u8_zero (c : UInt8) : (((c.toNat : Nat) : Int) == 0) = (c == 0) := by
  rw [Bool.eq_iff_iff, beq_iff_eq, beq_iff_eq, ← UInt8.toNat_inj]
  show _ ↔ c.toNat = 0
  omega
theorem kescape_yes (s : ByteArray) (hm : Ky.may s.data.toList = true) (w : World) :
    Calls Try.prog 20 #[.string s] w fun e w' => e = .returned (.tuple #[.string (bs (Ky.esc s.data.toList)), .int .i64 0]) ∧ Kept w w' := by
  have hl : s.data.toList.length = s.size := by simp
  have hb := Ky.may_bd hm
  rw [hl] at hb
  obtain ⟨hb1, hb2⟩ := hb
  have hmax : s.size ≤ maxLen := by unfold maxLen; omega
  have HM := Lib.hid hm; clear hm hl
  obtain ⟨cur, hmk, hcur⟩ := made_b 50 50 rfl (by omega) w
  have HC := Lib.hid hcur; clear hcur
  go_enter Try.func20, Try.ntmps20
  go_wp2_with fail
  refine (kmay_any s hmax _).mono ?_; rintro e w1 ⟨rfl, rfl⟩; rw [HM.out]
  go_wp2_with fail
  clear hmk
  go_loopw [4, 12] (fun v i wr => ∃ k : Nat, k ≤ s.size ∧ i = .int .i64 k ∧ wr.ownsRow w.heap.size 5 1 v (Ky.escB (s.data.toList.take k)).length (cellsOf (Ky.escB (s.data.toList.take k))) ∧ Kept w wr) (fun _ i _ => s.size - (intOf i).toNat)
  case atStart => exact ⟨0, Nat.zero_le _, rfl, own_made w cur 50 (by omega) HC.out, (Kept.refl _).alloc _⟩
  case round =>
    obtain ⟨k, hk, rfl, hown, hkw⟩ := hrel
    by_cases hlt : k < s.size
    · have HT := Lib.hid (take_snoc s k hlt)
      have hlen := escB_take_len s k hk
      by_cases hz : s[k] = 0
      · have hb : ((s[k].toNat : Int) == 0) = true := by rw [u8_zero]; simp [hz]
        have HZ := Lib.hid (show Ky.escB (s.data.toList.take (k + 1)) = Ky.escB (s.data.toList.take k) ++ [s[k]] ++ [255] from by rw [HT.out, hz, Ky.escB_snoc0]; simp)
        clear hz
        go_wp2_with (first | (at_builtin; refine app_b [s[k]] _ _ _ rfl rfl rfl hown hkw _ rfl rfl rfl (by simp; omega) ?_; intro v1 w1 hown1 hk1; clear hown) | (at_builtin; refine app_b [255] _ _ _ rfl rfl rfl hown1 hk1 _ rfl rfl rfl (by simp; omega) ?_; intro v2 w2 hown2 hk2))
        go_roundw
        case rel => exact ⟨k + 1, by omega, by go_num, by rw [HZ.out]; exact hown2, hk2⟩
        case measure => simp [intOf]; omega
      · have hb : ((s[k].toNat : Int) == 0) = false := by rw [u8_zero]; simp [hz]
        have HZ := Lib.hid (show Ky.escB (s.data.toList.take (k + 1)) = Ky.escB (s.data.toList.take k) ++ [s[k]] from by rw [HT.out, Ky.escB_snoc _ _ hz])
        clear hz
        go_wp2_with (at_builtin; refine app_b [s[k]] _ _ _ rfl rfl rfl hown hkw _ rfl rfl rfl (by simp; omega) ?_; intro v1 w1 hown1 hk1; clear hown)
        go_roundw
        case rel => exact ⟨k + 1, by omega, by go_num, by rw [HZ.out]; exact hown1, hk1⟩
        case measure => simp [intOf]; omega
    · have hlen := escB_take_len s k hk
      go_wp2_with (at_builtin; refine app_b [0, 1] _ _ _ rfl rfl rfl hown hkw _ rfl rfl rfl (by simp; omega) ?_; intro v1 w1 hown1 hk1; clear hown)
      rw [conv_owned hown1]
      go_wp2_with fail
      go_ret2
      rw [take_all s k (by omega)]
      exact ⟨rfl, hk1⟩
theorem kescape_no (s : ByteArray) (hs : s.size ≤ maxLen) (hm : Ky.may s.data.toList = false) (w : World) :
    Calls Try.prog 20 #[.string s] w fun e w' => e = .returned (.tuple #[.string (bs []), .int .i64 20]) ∧ Kept w w' := by
  have HM := Lib.hid hm; clear hm
  go_enter Try.func20, Try.ntmps20
  go_wp2_with fail
  refine (kmay_any s hs _).mono ?_; rintro e w1 ⟨rfl, rfl⟩; rw [HM.out]
  go_wp2_with fail
  go_ret2
  exact ⟨rfl, Kept.refl _⟩
theorem kept_set {w w' : World} (h : Kept w w') {a : Addr} (ha : w.heap.size ≤ a.block) (u : Value) : Kept w (w'.setCell a u) := Below.setCell h ha u
theorem kraised_any (l : List UInt8) (c : UInt8) (hc : c.toNat ≤ 254) (hl : l.length ≤ 4096) (w : World) :
    Calls Try.prog 31 #[.string (bs (l ++ [c]))] w fun e w' => e = .returned (.string (bs (l ++ [(c.toNat + 1).toUInt8]))) ∧ Kept w w' := by
  obtain ⟨W0, cap, hcv, hsz, hcell, hfr, hk⟩ := conv_str (bs (l ++ [c])) w
  have hsize : (bs (l ++ [c])).size = l.length + 1 := by simp [bs, ByteArray.size]
  rw [hsize] at hcv hcell hfr
  rw [bs_data] at hcell
  have hcl := hcell l.length (by omega)
  have hfl := hfr l.length (by omega)
  have hg : (l ++ [c]).getD l.length 0 = c := by simp
  rw [hg] at hcl
  have hcv2 := conv_cells (w := W0.setCell ⟨w.heap.size, l.length, none⟩ (.int .u8 ((c.toNat : Int) + 1))) (b := w.heap.size) (cap := cap) (n := l.length + 1) (l ++ [(c.toNat + 1).toUInt8]) (by simp) (by
    intro j hj
    by_cases hj2 : j = l.length
    · subst hj2
      rw [World.cell?_setCell_same (h := hcl)]
      simp; omega
    · have hj3 : j < l.length := by simp at hj; omega
      rw [World.cell?_setCell_other _ _ _ _ (by simp <;> omega), hcell j (by omega)]
      simp [hj3, List.getElem?_append_left hj3])
  clear hg hfr hcell
  have HC := Lib.hid hcv2; clear hcv2
  have HS := Lib.hid hsize; clear hsize
  have HZ := Lib.hid hsz; clear hsz
  go_enter Try.func31, Try.ntmps31
  go_wp2_with fail
  rw [HC.out]
  go_wp2_with fail
  go_ret
  exact ⟨rfl, kept_set hk (by simp) _⟩
theorem kraised_of (t l : List UInt8) (c : UInt8) (r : List UInt8) (ht : t = l ++ [c]) (hr : l ++ [(c.toNat + 1).toUInt8] = r) (hc : c.toNat ≤ 254) (hl : l.length ≤ 4096) (w : World) :
    Calls Try.prog 31 #[.string (bs t)] w fun e w' => e = .returned (.string (bs r)) ∧ Kept w w' := by
  subst ht hr; exact kraised_any l c hc hl w
theorem bs_size (l : List UInt8) : (bs l).size = l.length := by simp [bs, ByteArray.size]
theorem kfamily_yes (c : Int) (hf : Ky.okF c = true) (w : World) :
    Calls Try.prog 26 #[.int .i64 c] w fun e w' => e = .returned (.tuple #[.string (bs [Ky.cfb c]), .string (bs [Ky.cfn c]), .int .i64 0]) ∧ Kept w w' := by
  obtain ⟨h1, h2⟩ := Ky.okF_bd hf
  have HF := Lib.hid hf; clear hf
  have hw8 : IntKind.u8.wrap c = c := by rw [IntKind.wrap_u8]; omega
  have hb := Ky.cfb_toNat HF.out
  have hcv := conv_row w [Ky.cfb c] #[.int .u8 c] 5 1 1 rfl (by simp [hb])
  have HR := Lib.hid (kraised_of [Ky.cfb c] [] (Ky.cfb c) [Ky.cfn c] rfl (by unfold Ky.cfn; rw [show (c + 1).toNat = (Ky.cfb c).toNat + 1 from by omega]; rfl) (by omega) (by simp))
  clear hb
  go_enter Try.func26, Try.ntmps26
  go_wp2_with fail
  refine (kfam_any c _).mono ?_; rintro e w1 ⟨rfl, rfl⟩; rw [HF.out]
  go_wp2_with fail
  refine (HR.out _).mono ?_; rintro e w1 ⟨rfl, g1⟩
  go_wp2_with fail
  go_ret3
  exact ⟨rfl, kept_trans ((Kept.refl _).alloc _) g1⟩
theorem kfamily_no (c : Int) (hf : Ky.okF c = false) (w : World) :
    Calls Try.prog 26 #[.int .i64 c] w fun e w' => e = .returned (.tuple #[.string (bs []), .string (bs []), .int .i64 1]) ∧ Kept w w' := by
  have HF := Lib.hid hf; clear hf
  go_enter Try.func26, Try.ntmps26
  go_wp2_with fail
  refine (kfam_any c _).mono ?_; rintro e w1 ⟨rfl, rfl⟩; rw [HF.out]
  go_wp2_with fail
  go_ret3
  exact ⟨rfl, Kept.refl _⟩
theorem bs_app (a b : List UInt8) : bs a ++ bs b = bs (a ++ b) := bs_of (by simp [bs, ByteArray.data_append])
theorem kfirst_yes (c : Int) (s : ByteArray) (hf : Ky.okF c = true) (hm : Ky.may s.data.toList = true) (w : World) :
    Calls Try.prog 16 #[.int .i64 c, .string s] w fun e w' => e = .returned (.tuple #[.string (bs (Ky.fst c s.data.toList)), .int .i64 0]) ∧ Kept w w' := by
  have z1 : (bs [Ky.cfb c]).size ≤ 1 := by rw [bs_size]; simp
  have z2 : (bs (Ky.esc s.data.toList)).size ≤ 50 := by rw [bs_size]; exact (Ky.esc_len_may _ hm).2
  have HF := Lib.hid hf; clear hf
  have HM := Lib.hid hm; clear hm
  go_enter Try.func16, Try.ntmps16
  go_wp2_with fail
  refine (kfamily_yes c HF.out _).mono ?_; rintro e w1 ⟨rfl, g1⟩
  go_wp2_with fail
  refine (kescape_yes s HM.out _).mono ?_; rintro e w2 ⟨rfl, g2⟩
  go_wp2_with fail
  go_ret2
  rw [bs_app]
  exact ⟨rfl, kept_trans g1 g2⟩
theorem kfirst_cf (c : Int) (s : ByteArray) (hf : Ky.okF c = false) (w : World) :
    Calls Try.prog 16 #[.int .i64 c, .string s] w fun e w' => e = .returned (.tuple #[.string (bs []), .int .i64 1]) ∧ Kept w w' := by
  have HF := Lib.hid hf; clear hf
  go_enter Try.func16, Try.ntmps16
  go_wp2_with fail
  refine (kfamily_no c HF.out _).mono ?_; rintro e w1 ⟨rfl, g1⟩
  go_wp2_with fail
  go_ret2
  exact ⟨rfl, g1⟩
theorem kfirst_key (c : Int) (s : ByteArray) (hs : s.size ≤ maxLen) (hf : Ky.okF c = true) (hm : Ky.may s.data.toList = false) (w : World) :
    Calls Try.prog 16 #[.int .i64 c, .string s] w fun e w' => e = .returned (.tuple #[.string (bs []), .int .i64 20]) ∧ Kept w w' := by
  have HF := Lib.hid hf; clear hf
  have HM := Lib.hid hm; clear hm
  go_enter Try.func16, Try.ntmps16
  go_wp2_with fail
  refine (kfamily_yes c HF.out _).mono ?_; rintro e w1 ⟨rfl, g1⟩
  go_wp2_with fail
  refine (kescape_no s hs HM.out _).mono ?_; rintro e w2 ⟨rfl, g2⟩
  go_wp2_with fail
  go_ret2
  exact ⟨rfl, kept_trans g1 g2⟩
theorem kfirst_any (c : Int) (s : ByteArray) (hs : s.size ≤ maxLen) (w : World) :
    Calls Try.prog 16 #[.int .i64 c, .string s] w fun e w' => e = .returned (.tuple #[.string (bs (Ky.firstS c s.data.toList)), .int .i64 (Ky.firstE c s.data.toList)]) ∧ Kept w w' := by
  unfold Ky.firstS Ky.firstE
  rcases Bool.eq_false_or_eq_true (Ky.okF c) with hf | hf
  · rcases Bool.eq_false_or_eq_true (Ky.may s.data.toList) with hm | hm
    · rw [hf, hm]; exact kfirst_yes c s hf hm w
    · rw [hf, hm]; exact kfirst_key c s hs hf hm w
  · rw [hf]; exact kfirst_cf c s hf w
theorem kbehind_any (c : Int) (s : ByteArray) (hs : s.size ≤ maxLen) (w : World) :
    Calls Try.prog 18 #[.int .i64 c, .string s] w fun e w' => e = .returned (.tuple #[.string (bs (Ky.behS c s.data.toList)), .int .i64 (Ky.firstE c s.data.toList)]) ∧ Kept w w' := by
  by_cases h : Ky.okF c = true ∧ Ky.may s.data.toList = true
  · obtain ⟨hf, hm⟩ := h
    have hlen := Ky.esc_len_may _ hm
    rw [Ky.esc_len] at hlen
    have HR := Lib.hid (kraised_of (Ky.fst c s.data.toList) (Ky.cfb c :: (Ky.escB s.data.toList ++ [0])) 1 (Ky.beh c s.data.toList) (by simp [Ky.fst, Ky.esc]) (by simp [Ky.beh]) (by decide) (by simp; omega))
    have e1 : Ky.behS c s.data.toList = Ky.beh c s.data.toList := by unfold Ky.behS; rw [hf, hm]; rfl
    have e2 : Ky.firstE c s.data.toList = 0 := by unfold Ky.firstE; rw [hf, hm]; rfl
    rw [e1, e2]
    clear e1 e2
    have HF := Lib.hid hf; clear hf
    have HM := Lib.hid hm; clear hm
    go_enter Try.func18, Try.ntmps18
    go_wp2_with fail
    refine (kfirst_yes c s HF.out HM.out _).mono ?_; rintro e w1 ⟨rfl, g1⟩
    go_wp2_with fail
    refine (HR.out _).mono ?_; rintro e w2 ⟨rfl, g2⟩
    go_wp2_with fail
    go_ret2
    exact ⟨rfl, kept_trans g1 g2⟩
  · have e1 : Ky.behS c s.data.toList = [] := by unfold Ky.behS; rw [if_neg (by simpa using h)]
    have e2 : Ky.firstS c s.data.toList = [] := by unfold Ky.firstS; rw [if_neg (by simpa using h)]
    have e3 : (Ky.firstE c s.data.toList != 0) = true := by
      unfold Ky.firstE
      rcases Bool.eq_false_or_eq_true (Ky.okF c) with hf | hf
      · rcases Bool.eq_false_or_eq_true (Ky.may s.data.toList) with hm | hm
        · exact absurd ⟨hf, hm⟩ h
        · rw [hf, hm]; rfl
      · rw [hf]; rfl
    rw [e1]
    have HC := Lib.hid (kfirst_any c s hs)
    have HS := Lib.hid e2
    clear e1 e2 h
    generalize Ky.firstE c s.data.toList = x at *
    go_enter Try.func18, Try.ntmps18
    go_wp2_with fail
    refine (HC.out _).mono ?_; rintro e w1 ⟨rfl, g1⟩; rw [HS.out]
    go_wp2_with fail
    go_ret2
    exact ⟨rfl, g1⟩
theorem firstE_no {c : Int} {u : List UInt8} (h : ¬ (Ky.okF c = true ∧ Ky.may u = true)) : (Ky.firstE c u != 0) = true ∧ Ky.firstS c u = [] ∧ ∀ t, Ky.makeE c u t = Ky.firstE c u ∧ Ky.makeS c u t = [] := by
  refine ⟨?_, ?_, fun t => ⟨?_, ?_⟩⟩
  · unfold Ky.firstE
    rcases Bool.eq_false_or_eq_true (Ky.okF c) with hf | hf
    · rcases Bool.eq_false_or_eq_true (Ky.may u) with hm | hm
      · exact absurd ⟨hf, hm⟩ h
      · rw [hf, hm]; rfl
    · rw [hf]; rfl
  · unfold Ky.firstS; rw [if_neg (by simpa using h)]
  · unfold Ky.firstE Ky.makeE
    rcases Bool.eq_false_or_eq_true (Ky.okF c) with hf | hf
    · rcases Bool.eq_false_or_eq_true (Ky.may u) with hm | hm
      · exact absurd ⟨hf, hm⟩ h
      · rw [hf, hm]; rfl
    · rw [hf]; rfl
  · unfold Ky.makeS
    rw [if_neg]
    intro hh
    simp only [Bool.and_eq_true] at hh
    exact h ⟨hh.1, hh.2.1⟩
/-- a call that leaves the world as it is, inside a region that only reads -/
theorem quiet_l {P : Program} {f : FuncId} {args : Array Value} {w : World} {n : Nat} {v : Value} (h : Calls P f args (w.drewN n) fun e w' => e = .returned v ∧ w.drewN n = w') :
    Calls P f args (w.drewN n) fun e w'' => e = .returned v ∧ ∃ m, w'' = w.drewN m := h.mono fun _ _ k => ⟨k.1, n, k.2.symm⟩
theorem kmake_any (c : Int) (s : ByteArray) (t : Int) (hs : s.size ≤ maxLen) (t0 : 0 ≤ t) (t1 : t ≤ 18446744073709551615) (w : World) :
    Calls Try.prog 11 #[.agg #[.int .i64 c, .string s, .int .u64 t]] w fun e w' => e = .returned (.tuple #[.string (bs (Ky.makeS c s.data.toList t)), .int .i64 (Ky.makeE c s.data.toList t)]) ∧ Kept w w' := by
  by_cases h : Ky.okF c = true ∧ Ky.may s.data.toList = true
  · obtain ⟨hf, hm⟩ := h
    have z1 : (bs (Ky.fst c s.data.toList)).size ≤ 51 := by rw [bs_size, Ky.fst, List.length_cons]; have := (Ky.esc_len_may _ hm).2; omega
    have z2 : (bs (Nm.fall t.toNat)).size ≤ 8 := by rw [bs_size]; exact Nat.le_of_eq (Nm.long_len _)
    have HC := Lib.hid (kfirst_yes c s hf hm)
    obtain ⟨lb0, lb1⟩ := Ky.lastT_bd c
    by_cases hr : t ≤ Ky.lastT c
    · have e1 : Ky.makeS c s.data.toList t = Ky.fst c s.data.toList ++ Ky.tailS c t := Ky.makeS_ok ⟨hf, hm, t0, hr⟩
      have e2 : Ky.makeE c s.data.toList t = 0 := Ky.makeE_ok ⟨hf, hm, t0, hr⟩
      rw [e1, e2]
      clear e1 e2 hf hm
      by_cases hc : c = 1
      · have HT := Lib.hid (show Ky.fst c s.data.toList ++ Ky.tailS c t = Ky.fst c s.data.toList from by unfold Ky.tailS; rw [if_pos hc, List.append_nil])
        rw [HT.out]
        have hb : (c != 1) = false := by simp [hc]
        clear hc
        generalize Ky.fst c s.data.toList = F at *
        go_enter Try.func11, Try.ntmps11
        go_wp2_with fail
        refine (HC.out _).mono ?_; rintro e w1 ⟨rfl, g1⟩
        have c0 : w1.cell? ⟨w.heap.size, 0, none⟩ = some (.int .i64 c) := by rw [kept_cell g1 (by simp)]; simp
        have c2 : w1.cell? ⟨w.heap.size, 2, none⟩ = some (.int .u64 t) := by rw [kept_cell g1 (by simp)]; simp
        go_wp2_with fail
        go_quiet ((go_at_call 27; exact quiet_l (klast_any _ _)))
        go_wp2_with fail
        refine (ktimed_any c _).mono ?_; rintro e w2 ⟨rfl, rfl⟩
        go_wp2_with fail
        go_ret2
        exact ⟨rfl, kept_trans ((Kept.refl _).alloc _) (kept_trans g1 (kept_drewN _ _))⟩
      · have HT := Lib.hid (show Ky.fst c s.data.toList ++ Ky.tailS c t = Ky.fst c s.data.toList ++ Nm.fall t.toNat from by unfold Ky.tailS; rw [if_neg hc])
        rw [HT.out]
        have hb : (c != 1) = true := by simp [hc]
        clear hc HT
        generalize Ky.fst c s.data.toList = F at *
        go_enter Try.func11, Try.ntmps11
        go_wp2_with fail
        refine (HC.out _).mono ?_; rintro e w1 ⟨rfl, g1⟩
        have c0 : w1.cell? ⟨w.heap.size, 0, none⟩ = some (.int .i64 c) := by rw [kept_cell g1 (by simp)]; simp
        have c2 : w1.cell? ⟨w.heap.size, 2, none⟩ = some (.int .u64 t) := by rw [kept_cell g1 (by simp)]; simp
        go_wp2_with fail
        go_quiet ((go_at_call 27; exact quiet_l (klast_any _ _)))
        go_wp2_with fail
        refine (ktimed_any c _).mono ?_; rintro e w2 ⟨rfl, rfl⟩
        go_wp2_with fail
        refine (fall_any t t0 t1 _).mono ?_; rintro e w2 ⟨rfl, g2⟩
        go_wp2_with fail
        go_ret2
        rw [bs_app]
        exact ⟨rfl, kept_trans ((Kept.refl _).alloc _) (kept_trans g1 (kept_trans (kept_drewN _ _) g2))⟩
    · have e1 : Ky.makeS c s.data.toList t = [] := Ky.makeS_no t0 (fun h => hr h.2.2.2)
      have e2 : Ky.makeE c s.data.toList t = 3 := by unfold Ky.makeE; rw [if_pos hf, if_pos hm, if_neg hr]
      rw [e1, e2]
      clear e1 e2 hf hm
      generalize Ky.fst c s.data.toList = F at *
      go_enter Try.func11, Try.ntmps11
      go_wp2_with fail
      refine (HC.out _).mono ?_; rintro e w1 ⟨rfl, g1⟩
      have c0 : w1.cell? ⟨w.heap.size, 0, none⟩ = some (.int .i64 c) := by rw [kept_cell g1 (by simp)]; simp
      have c2 : w1.cell? ⟨w.heap.size, 2, none⟩ = some (.int .u64 t) := by rw [kept_cell g1 (by simp)]; simp
      go_wp2_with fail
      go_quiet ((go_at_call 27; exact quiet_l (klast_any _ _)))
      go_wp2_with fail
      go_ret2
      exact ⟨rfl, kept_trans ((Kept.refl _).alloc _) (kept_trans g1 (kept_drewN _ _))⟩
  · obtain ⟨e1, e2, e3⟩ := firstE_no h
    obtain ⟨e4, e5⟩ := e3 t
    rw [e4, e5]
    have HC := Lib.hid (kfirst_any c s hs)
    have HS := Lib.hid e2
    clear e2 e3 e4 e5 h
    generalize Ky.firstE c s.data.toList = x at *
    go_enter Try.func11, Try.ntmps11
    go_wp2_with fail
    refine (HC.out _).mono ?_; rintro e w1 ⟨rfl, g1⟩; rw [HS.out]
    go_wp2_with fail
    go_ret2
    exact ⟨rfl, kept_trans ((Kept.refl _).alloc _) g1⟩
end Go.Proofs.Ytfllijckoabnmaa
