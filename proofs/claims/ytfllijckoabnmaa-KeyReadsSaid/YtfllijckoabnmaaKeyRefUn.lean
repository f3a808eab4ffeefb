/-
  What the document's own Unescape (package screeref02) computes: the same as the program's.
-/
import Derived.Test.YtfllijckoabnmaaKeyRef
namespace Go.Proofs.Ytfllijckoabnmaa
open Go.ChangeShapes Go.WideShapes Go.ChangeAt Go.RowKit
set_option linter.unusedVariables false
set_option maxHeartbeats 400000
/-- bytes as a user's key: behind a 0 one byte is passed over -/
def dec : List UInt8 → List UInt8
  | [] => []
  | [c] => [c]
  | c :: d :: r => if c = 0 then 0 :: dec r else c :: dec (d :: r)
theorem dec_cons (c : UInt8) (r : List UInt8) : dec (c :: r) = if c = 0 then 0 :: dec (r.drop 1) else c :: dec r := by
  cases r with
  | nil => rw [dec]; split
           · rename_i h; rw [h]; rfl
           · rfl
  | cons d r => rw [dec]; rfl
theorem dec_esc : ∀ (u : List UInt8), dec (Ky.escB u) = u
  | [] => rfl
  | c :: u => by
    rw [Ky.escB]
    split
    · rename_i h; rw [dec_cons, if_pos rfl, h]; show 0 :: dec (Ky.escB u) = _; rw [dec_esc u]
    · rename_i h; rw [dec_cons, if_neg h, dec_esc u]
/-- no beginning below n bytes is an escaped key -/
def NoneTo (l : List UInt8) (n : Nat) : Prop := ∀ m, m < n → ¬ ∃ u, Ky.may u = true ∧ l.take m = Ky.esc u
theorem NoneTo.start (l : List UInt8) : NoneTo l 2 := by
  rintro m hm ⟨u, hu, e⟩
  have h1 := (Ky.esc_len_may u hu).1
  have h2 := congrArg List.length e
  rw [List.length_take] at h2
  omega
theorem NoneTo.next {l : List UInt8} {n : Nat} (h : NoneTo l n) (hn : ¬ ∃ u, Ky.may u = true ∧ l.take n = Ky.esc u) : NoneTo l (n + 1) := by
  intro m hm
  rcases Nat.lt_or_ge m n with h1 | h1
  · exact h m h1
  · obtain rfl : m = n := by omega
    exact hn
theorem NoneTo.nothing {l : List UInt8} {n : Nat} (h : NoneTo l n) (hn : l.length < n) : ¬ Begins l := by
  rintro ⟨u, r, e, hu⟩
  refine h (Ky.esc u).length ?_ ⟨u, hu, by rw [e, List.take_left]⟩
  have := congrArg List.length e
  rw [List.length_append] at this
  omega
theorem ends_01 {l : List UInt8} {m : Nat} (hm : m + 2 ≤ l.length) {u : List UInt8} (e : l.take (m + 2) = Ky.esc u) : l.take m = Ky.escB u ∧ l.getD m 0 = 0 ∧ l.getD (m + 1) 0 = 1 := by
  rw [Nm.take_snoc' l (m + 1) (by omega), Nm.take_snoc' l m (by omega), Ky.esc, List.append_assoc] at e
  have h1 := congrArg List.length e
  rw [List.length_append, List.length_append] at h1
  obtain ⟨h2, h3⟩ := List.append_inj e (by simp at h1; simp; omega)
  simp at h3
  exact ⟨h2, h3.1, h3.2⟩
theorem no_01 {l : List UInt8} {m : Nat} (hm : m + 2 ≤ l.length) (h : ¬ (l.getD m 0 = 0 ∧ l.getD (m + 1) 0 = 1)) : ¬ ∃ u, Ky.may u = true ∧ l.take (m + 2) = Ky.esc u :=
  fun ⟨u, _, e⟩ => h (ends_01 hm e).2
theorem no_dec {l : List UInt8} {m : Nat} (hm : m + 2 ≤ l.length) (h : Ky.may (dec (l.take m)) = true → Ky.esc (dec (l.take m)) ≠ l.take (m + 2)) : ¬ ∃ u, Ky.may u = true ∧ l.take (m + 2) = Ky.esc u := by
  rintro ⟨u, hu, e⟩
  have h1 := (ends_01 hm e).1
  have h2 : dec (l.take m) = u := by rw [h1, dec_esc]
  rw [h2] at h
  exact h hu e.symm
theorem drop_cons {l : List UInt8} {j m : Nat} (h : j < m) (hm : m ≤ l.length) : (l.take m).drop j = l.getD j 0 :: (l.take m).drop (j + 1) := by
  rw [List.drop_eq_getElem_cons (by rw [List.length_take_of_le hm]; exact h)]
  congr 1
  rw [List.getElem_take, List.getD_eq_getElem?_getD, List.getElem?_eq_getElem (by omega)]; rfl
/-- what was read of the key so far -/
def DecTo (l : List UInt8) (m j : Nat) (L : List UInt8) : Prop := dec (l.take m) = L ++ dec ((l.take m).drop j) ∧ L.length ≤ j
theorem DecTo.zero (l : List UInt8) (m : Nat) : DecTo l m 0 [] := ⟨by simp, by simp⟩
theorem DecTo.skip {l : List UInt8} {m j : Nat} {L : List UInt8} (h : DecTo l m j L) (hj : j < m) (hm : m ≤ l.length) (hc : l.getD j 0 = 0) : DecTo l m (j + 2) (L ++ [l.getD j 0]) := by
  refine ⟨?_, by simp; have := h.2; omega⟩
  rw [h.1, drop_cons hj hm, dec_cons, if_pos hc, hc, List.drop_drop]; simp
theorem DecTo.plain {l : List UInt8} {m j : Nat} {L : List UInt8} (h : DecTo l m j L) (hj : j < m) (hm : m ≤ l.length) (hc : l.getD j 0 ≠ 0) : DecTo l m (j + 1) (L ++ [l.getD j 0]) := by
  refine ⟨?_, by simp; have := h.2; omega⟩
  rw [h.1, drop_cons hj hm, dec_cons, if_neg hc]; simp
theorem DecTo.done {l : List UInt8} {m j : Nat} {L : List UInt8} (h : DecTo l m j L) (hj : m ≤ j) : dec (l.take m) = L := by
  have : (l.take m).drop j = [] := List.drop_eq_nil_of_le (by rw [List.length_take]; omega)
  rw [h.1, this]; simp [dec]
theorem u8_not (c : UInt8) (n : Nat) (hn : n < 256) : (((c.toNat : Nat) : Int) != (n : Int)) = !(c == n.toUInt8) := by
  rw [bne, u8_is c n hn]
set_option maxHeartbeats 1600000 in
set_option maxRecDepth 100000 in
theorem rkunescape_post (s : ByteArray) (hs : s.size ≤ 4096) (w : World) :
    Calls Try.prog 25 #[.string s] w (UnescPost s.data.toList w) := by
  go_enter Try.func25, Try.ntmps25
  go_wp2_with fail
  go_loopw [5] (fun i wr => ∃ m : Nat, m ≤ s.size ∧ i = .int .i64 ((m : Int) + 2) ∧ Kept w wr ∧ NoneTo s.data.toList (m + 2)) (fun i _ => 8192 - (intOf i).toNat)
  case atStart => exact ⟨0, Nat.zero_le _, rfl, Kept.refl _, NoneTo.start _⟩
  case round =>
    obtain ⟨m, hm, rfl, hkw, hN⟩ := hrel
    have HL := Lib.hid (show s.data.toList.length = s.size from by simp)
    by_cases hle : m + 2 ≤ s.size
    · have hm0 : m < s.size := by omega
      have hm1 : m + 1 < s.size := by omega
      have HD0 := Lib.hid (getD_of s m hm0)
      have HD1 := Lib.hid (getD_of s (m + 1) hm1)
      by_cases h0 : s[m] = 0
      · have hb0 : ((s[m].toNat : Int) != 0) = false := by rw [show (0 : Int) = ((0 : Nat) : Int) from rfl, u8_not _ _ (by omega)]; simp [h0]
        by_cases h1 : s[m + 1] = 1
        · have hb1 : ((s[m + 1].toNat : Int) != 1) = false := by rw [show (1 : Int) = ((1 : Nat) : Int) from rfl, u8_not _ _ (by omega)]; simp [h1]
          clear h0 h1
          have hml : m ≤ s.data.toList.length := by rw [HL.out]; omega
          go_wp2_with fail
          go_loopw [6, 7] (fun v i wx => ∃ (j : Nat) (L : List UInt8), j ≤ m + 1 ∧ i = .int .i64 j ∧ wx.ownsRow w.heap.size 5 1 v L.length (cellsOf L) ∧ Kept w wx ∧ DecTo s.data.toList m j L) (fun _ i _ => m + 2 - (intOf i).toNat)
          case atStart => exact ⟨0, [], by omega, rfl, World.ownsRow_lit (base := w.heap.size) (e := 5) (size := 1) wr #[] 0 (Below.size hkw) (by unfold maxLen; omega) rfl, hkw.alloc _, DecTo.zero _ _⟩
          case round =>
            obtain ⟨j, L, hj, rfl, hown, hkx, hD⟩ := hrel
            have hL := hD.2
            by_cases hlt : j < m
            · have hjs : j < s.size := by omega
              have HJ := Lib.hid (getD_of s j hjs)
              by_cases hz : s[j] = 0
              · have hb : ((s[j].toNat : Int) == 0) = true := by rw [u8_zero]; simp [hz]
                have hD1 := hD.skip hlt hml (by rw [HJ.out]; exact hz)
                rw [HJ.out] at hD1
                clear hz
                go_wp2_with (at_builtin; refine app_b [s[j]] _ _ _ rfl rfl rfl hown hkx _ rfl rfl rfl (by simp; omega) ?_; intro v1 w1 hown1 hk1; clear hown)
                go_roundw
                case rel => exact ⟨j + 2, L ++ [s[j]], by omega, by go_num, hown1, hk1, hD1⟩
                case measure => simp [intOf]; omega
              · have hb : ((s[j].toNat : Int) == 0) = false := by rw [u8_zero]; simp [hz]
                have hD1 := hD.plain hlt hml (by rw [HJ.out]; exact hz)
                rw [HJ.out] at hD1
                clear hz
                go_wp2_with (at_builtin; refine app_b [s[j]] _ _ _ rfl rfl rfl hown hkx _ rfl rfl rfl (by simp; omega) ?_; intro v1 w1 hown1 hk1; clear hown)
                go_roundw
                case rel => exact ⟨j + 1, L ++ [s[j]], by omega, by go_num, hown1, hk1, hD1⟩
                case measure => simp [intOf]; omega
            · have HU := Lib.hid (hD.done (by omega))
              have hcv := conv_owned hown
              have hsz : (bs L).size ≤ maxLen := by rw [bs_size]; unfold maxLen; omega
              rcases Bool.eq_false_or_eq_true (Ky.may L) with hmy | hmy
              · have HM := Lib.hid hmy
                have HX := Lib.hid (show (s.extract 0 (m + 2)).toList = s.data.toList.take (m + 2) from by rw [Lib.toList_data, Lib.extract_data]; simp)
                by_cases he : Ky.esc L = s.data.toList.take (m + 2)
                · have hb : ((bs (Ky.esc L)).toList == (s.extract 0 (m + 2)).toList) = true := by rw [HX.out, Lib.toList_data, bs_data, beq_iff_eq]; exact he
                  have HE := Lib.hid he
                  clear he hmy
                  go_wp2_with fail
                  refine (rkescape_yes (bs L) HM.out _).mono ?_; rintro e w2 ⟨rfl, g2⟩; rw [bs_data]
                  go_wp2_with fail
                  have hcn := fun n => conv_owned (w := w2.drewN n) (own_kept hown (kept_trans g2 (kept_drewN _ _)))
                  go_quiet (fail)
                  go_wp2_with fail
                  go_ret3
                  rw [extract_end]
                  exact ⟨.inl ⟨L, _, by rw [HE.out, List.take_append_drop], HM.out, rfl⟩, kept_trans hkx (kept_trans g2 (kept_drewN _ _))⟩
                · have hb : ((bs (Ky.esc L)).toList == (s.extract 0 (m + 2)).toList) = false := by rw [HX.out, Lib.toList_data, bs_data, beq_eq_false_iff_ne]; exact he
                  have hN1 := hN.next (no_dec (by rw [HL.out]; exact hle) (fun _ => by rw [HU.out]; exact he))
                  clear he hmy
                  go_wp2_with fail
                  refine (rkescape_yes (bs L) HM.out _).mono ?_; rintro e w2 ⟨rfl, g2⟩; rw [bs_data]
                  go_wp2_with fail
                  go_roundw
                  case rel => exact ⟨m + 1, by omega, by go_num, kept_trans hkx g2, hN1⟩
                  case measure => simp [intOf]; omega
              · have HM := Lib.hid hmy
                have hN1 := hN.next (no_dec (by rw [HL.out]; exact hle) (fun h => by rw [HU.out, hmy] at h; exact absurd h (by decide)))
                clear hmy
                go_wp2_with fail
                refine (rkescape_no (bs L) hsz HM.out _).mono ?_; rintro e w2 ⟨rfl, g2⟩
                go_wp2_with fail
                go_roundw
                case rel => exact ⟨m + 1, by omega, by go_num, kept_trans hkx g2, hN1⟩
                case measure => simp [intOf]; omega
        · have hb1 : ((s[m + 1].toNat : Int) != 1) = true := by rw [show (1 : Int) = ((1 : Nat) : Int) from rfl, u8_not _ _ (by omega)]; simp [h1]
          have hN1 := hN.next (no_01 (by rw [HL.out]; exact hle) (by rw [HD0.out, HD1.out]; exact fun h => h1 h.2))
          clear h0 h1
          go_wp2_with fail
          go_roundw
          case rel => exact ⟨m + 1, by omega, by go_num, hkw, hN1⟩
          case measure => simp [intOf]; omega
      · have hb0 : ((s[m].toNat : Int) != 0) = true := by rw [show (0 : Int) = ((0 : Nat) : Int) from rfl, u8_not _ _ (by omega)]; simp [h0]
        have hN1 := hN.next (no_01 (by rw [HL.out]; exact hle) (by rw [HD0.out, HD1.out]; exact fun h => h0 h.1))
        clear h0
        go_wp2_with fail
        go_roundw
        case rel => exact ⟨m + 1, by omega, by go_num, hkw, hN1⟩
        case measure => simp [intOf]; omega
    · have HB := Lib.hid (hN.nothing (by rw [HL.out]; omega))
      go_wp2_with fail
      go_ret3
      exact ⟨.inr ⟨HB.out, rfl⟩, hkw⟩
theorem rkunescape_yes (s : ByteArray) (u r : List UInt8) (hs : s.size ≤ 4096) (h : s.data.toList = Ky.esc u ++ r) (hm : Ky.may u = true) (w : World) :
    Calls Try.prog 25 #[.string s] w fun e w' => e = .returned (.tuple #[.string (bs u), .string (bs r), .int .i64 0]) ∧ Kept w w' := by
  refine (rkunescape_post s hs w).mono ?_
  rintro e w' ⟨⟨u', r', h', _, he⟩ | ⟨hn, _⟩, hk⟩
  · obtain ⟨rfl, rfl⟩ := Ky.esc_inj (h.symm.trans h')
    exact ⟨he, hk⟩
  · exact absurd ⟨u, r, h, hm⟩ hn
theorem rkunescape_no (s : ByteArray) (hs : s.size ≤ 4096) (h : ¬ Begins s.data.toList) (w : World) :
    Calls Try.prog 25 #[.string s] w fun e w' => e = .returned (.tuple #[.string (bs []), .string (bs []), .int .i64 2]) ∧ Kept w w' := by
  refine (rkunescape_post s hs w).mono ?_
  rintro e w' ⟨⟨u', r', h', hm, he⟩ | ⟨hn, he⟩, hk⟩
  · exact absurd ⟨u', r', h', hm⟩ h
  · exact ⟨he, hk⟩
end Go.Proofs.Ytfllijckoabnmaa
