/-
  What Read of package key computes, for every input.
-/
import Derived.Test.YtfllijckoabnmaaKeyRead
namespace Go.Proofs.Ytfllijckoabnmaa
open Go.ChangeShapes Go.WideShapes Go.ChangeAt Go.RowKit
set_option linter.unusedVariables false
set_option maxHeartbeats 400000

/-- the parts as the program holds them -/
def parts (c : Int) (u : List UInt8) (t : Int) : Value := .agg #[.int .i64 c, .string (bs u), .int .u64 t]
theorem kept_lt {w w1 : World} {o : Obj} (g : Kept (w.alloc o) w1) : w.heap.size < w1.heap.size := by
  have := Below.size g
  simp at this
  omega
/-- a block of three cells that was there stays -/
theorem three {w w1 : World} {a b c : Value} {t : TypeId} (g : Kept (w.alloc (.cells #[a, b, c] t)) w1) :
    (w1.cell? ⟨w.heap.size, 0, none⟩ = some a ∧ w1.cell? ⟨w.heap.size, 1, none⟩ = some b ∧ w1.cell? ⟨w.heap.size, 2, none⟩ = some c) ∧
    (w1.frozen? ⟨w.heap.size, 0, none⟩ = false ∧ w1.frozen? ⟨w.heap.size, 1, none⟩ = false ∧ w1.frozen? ⟨w.heap.size, 2, none⟩ = false) := by
  refine ⟨⟨?_, ?_, ?_⟩, ?_, ?_, ?_⟩
  · rw [kept_cell g (by simp)]; simp
  · rw [kept_cell g (by simp)]; simp
  · rw [kept_cell g (by simp)]; simp
  · rw [kept_frozen g (by simp)]; simp
  · rw [kept_frozen g (by simp)]; simp
  · rw [kept_frozen g (by simp)]; simp
theorem kread_yes (s : ByteArray) (c : Int) (u : List UInt8) (t : Int) (hs : s.size ≤ 4096) (h : Ky.Ok c u t) (he : s.data.toList = Ky.mk c u t) (w : World) :
    Calls Try.prog 22 #[.string s] w fun e w' => e = .returned (.tuple #[parts c u t, .int .i64 0]) ∧ Kept w w' := by
  obtain ⟨b1, b2, b3, b4, b5, b6⟩ := h.bd
  have hl : s.data.toList.length = s.size := by simp
  have hlen : 1 ≤ s.size := by rw [← hl, he, Ky.mk, Ky.fst]; simp
  have h0 : s[0] = Ky.cfb c := by rw [← getD_of s 0 (by omega), he]; rfl
  have hc0 : ((s[0].toNat : Nat) : Int) = c := by rw [h0]; exact Ky.cfb_toNat h.1
  have hne : (s.toList == []) = false := by
    rw [Lib.toList_data, beq_eq_false_iff_ne]; intro e; rw [e] at hl; simp at hl; omega
  have hd : s.data.toList.drop 1 = Ky.esc u ++ Ky.tailS c t := by rw [he, Ky.mk, Ky.fst]; rfl
  have hsz : (bs (s.data.toList.drop 1)).size ≤ 4096 := by rw [bs_size, List.length_drop]; omega
  have htl : (bs (Ky.tailS c t)).size ≤ maxLen := by rw [bs_size, Ky.tail_len]; unfold maxLen; split <;> omega
  have HU := Lib.hid (kunescape_yes (bs (s.data.toList.drop 1)) u (Ky.tailS c t) hsz hd h.2.1)
  have HT := Lib.hid (ktime_yes c (bs (Ky.tailS c t)) t htl ⟨rfl, h.2.2⟩)
  have HF := Lib.hid h.1
  have hp0 : 0 < s.size := by omega
  have hw : wrap64 ((s[0].toNat : Nat) : Int) = c := by rw [hc0, IntWalk.wrap64_in _ (by constructor <;> omega)]
  have HX := Lib.hid (extract_end s 1)
  clear h he hl h0 hc0 hd hsz htl
  go_enter Try.func22, Try.ntmps22
  go_wp2_with fail
  refine (kfam_any c _).mono ?_; rintro e w1 ⟨rfl, rfl⟩; rw [HF.out]
  go_wp2_with fail
  rw [HX.out]
  refine (HU.out _).mono ?_; rintro e w1 ⟨rfl, g1⟩
  obtain ⟨⟨c0, c1, c2⟩, f0, f1, f2⟩ := three g1
  go_wp2_with fail
  refine (HT.out _).mono ?_; rintro e w2 ⟨rfl, rfl⟩
  go_wp2_with fail
  refine bodyPost_ret (v := .tuple #[parts c u t, .int .i64 0]) (by simp [results, Try.results22, parts, go_sem, c0, c1, c2]) rfl ⟨rfl, ?_⟩
  exact kept_set (kept_set (kept_set (kept_trans ((Kept.refl _).alloc _) g1) (by simp) _) (by simp) _) (by simp) _
/-- bytes that are a store's key -/
def IsKey (l : List UInt8) : Prop := ∃ c u t, Ky.Ok c u t ∧ l = Ky.mk c u t
theorem kread_empty (w : World) :
    Calls Try.prog 22 #[.string (bs [])] w fun e w' => e = .returned (.tuple #[parts 0 [] 0, .int .i64 2]) ∧ Kept w w' := by
  have hb : ((bs []).toList == []) = true := by rw [Lib.toList_data]; rfl
  go_enter Try.func22, Try.ntmps22
  go_wp2_with fail
  refine bodyPost_ret (v := .tuple #[parts 0 [] 0, .int .i64 2]) (by simp [results, Try.results22, parts, bs, go_sem]) rfl ⟨rfl, ?_⟩
  exact (Kept.refl _).alloc _
theorem head_of (s : ByteArray) (c : Int) (hlen : 1 ≤ s.size) (hc : ((s[0].toNat : Nat) : Int) = c) : (s.toList == []) = false ∧ wrap64 ((s[0].toNat : Nat) : Int) = c := by
  have hl : s.data.toList.length = s.size := by simp
  have hc8 := s[0].toNat_lt
  refine ⟨?_, by rw [IntWalk.wrap64_in _ (by constructor <;> omega)]; exact hc⟩
  rw [Lib.toList_data, beq_eq_false_iff_ne]; intro e; rw [e] at hl; simp at hl; omega
theorem kread_fam (s : ByteArray) (c : Int) (hlen : 1 ≤ s.size) (hs : s.size ≤ 4096) (hc : ((s[0].toNat : Nat) : Int) = c) (hf : Ky.okF c = false) (w : World) :
    Calls Try.prog 22 #[.string s] w fun e w' => e = .returned (.tuple #[parts 0 [] 0, .int .i64 2]) ∧ Kept w w' := by
  obtain ⟨hne, hw⟩ := head_of s c hlen hc
  have hp0 : 0 < s.size := by omega
  have HF := Lib.hid hf
  clear hc hf
  go_enter Try.func22, Try.ntmps22
  go_wp2_with fail
  refine (kfam_any c _).mono ?_; rintro e w1 ⟨rfl, rfl⟩; rw [HF.out]
  go_wp2_with fail
  refine bodyPost_ret (v := .tuple #[parts 0 [] 0, .int .i64 2]) (by simp [results, Try.results22, parts, bs, go_sem]) rfl ⟨rfl, ?_⟩
  exact (Kept.refl _).alloc _
theorem kread_key (s : ByteArray) (c : Int) (hlen : 1 ≤ s.size) (hs : s.size ≤ 4096) (hc : ((s[0].toNat : Nat) : Int) = c) (hf : Ky.okF c = true) (hB : ¬ Begins (s.data.toList.drop 1)) (w : World) :
    Calls Try.prog 22 #[.string s] w fun e w' => e = .returned (.tuple #[parts 0 [] 0, .int .i64 2]) ∧ Kept w w' := by
  obtain ⟨hne, hw⟩ := head_of s c hlen hc
  have hp0 : 0 < s.size := by omega
  have hl : s.data.toList.length = s.size := by simp
  have hsz : (bs (s.data.toList.drop 1)).size ≤ 4096 := by rw [bs_size, List.length_drop]; omega
  have HU := Lib.hid (kunescape_no (bs (s.data.toList.drop 1)) hsz hB)
  have HF := Lib.hid hf
  have HX := Lib.hid (extract_end s 1)
  clear hl hc hsz hf hB
  go_enter Try.func22, Try.ntmps22
  go_wp2_with fail
  refine (kfam_any c _).mono ?_; rintro e w1 ⟨rfl, rfl⟩; rw [HF.out]
  go_wp2_with fail
  rw [HX.out]
  refine (HU.out _).mono ?_; rintro e w1 ⟨rfl, g1⟩
  obtain ⟨⟨c0, c1, c2⟩, f0, f1, f2⟩ := three g1
  go_wp2_with fail
  refine bodyPost_ret (v := .tuple #[parts 0 [] 0, .int .i64 2]) (by simp [results, Try.results22, parts, bs, go_sem, c0, c1, c2]) rfl ⟨rfl, ?_⟩
  exact kept_set (kept_set (kept_set (kept_trans ((Kept.refl _).alloc _) g1) (by simp) _) (by simp) _) (by simp) _
theorem kread_time (s : ByteArray) (c : Int) (u r : List UInt8) (hlen : 1 ≤ s.size) (hs : s.size ≤ 4096) (hc : ((s[0].toNat : Nat) : Int) = c) (hf : Ky.okF c = true) (hd : s.data.toList.drop 1 = Ky.esc u ++ r) (hm : Ky.may u = true) (hT : ¬ ∃ t, TimeOf c r t) (w : World) :
    Calls Try.prog 22 #[.string s] w fun e w' => e = .returned (.tuple #[parts 0 [] 0, .int .i64 2]) ∧ Kept w w' := by
  obtain ⟨hne, hw⟩ := head_of s c hlen hc
  have hp0 : 0 < s.size := by omega
  have hl : s.data.toList.length = s.size := by simp
  have hsz : (bs (s.data.toList.drop 1)).size ≤ 4096 := by rw [bs_size, List.length_drop]; omega
  have hrl : (bs r).size ≤ maxLen := by
    have := congrArg List.length hd
    rw [List.length_append, List.length_drop] at this
    rw [bs_size]; unfold maxLen; omega
  have HU := Lib.hid (kunescape_yes (bs (s.data.toList.drop 1)) u r hsz hd hm)
  have HT := Lib.hid (ktime_no c (bs r) hrl hT)
  have HF := Lib.hid hf
  have HX := Lib.hid (extract_end s 1)
  clear hl hc hsz hf hd hT hrl hm
  go_enter Try.func22, Try.ntmps22
  go_wp2_with fail
  refine (kfam_any c _).mono ?_; rintro e w1 ⟨rfl, rfl⟩; rw [HF.out]
  go_wp2_with fail
  rw [HX.out]
  refine (HU.out _).mono ?_; rintro e w1 ⟨rfl, g1⟩
  obtain ⟨⟨c0, c1, c2⟩, f0, f1, f2⟩ := three g1
  go_wp2_with fail
  refine (HT.out _).mono ?_; rintro e w2 ⟨rfl, rfl⟩
  go_wp2_with fail
  refine bodyPost_ret (v := .tuple #[parts 0 [] 0, .int .i64 2]) (by simp [results, Try.results22, parts, bs, go_sem, c0, c1, c2]) rfl ⟨rfl, ?_⟩
  exact kept_set (kept_set (kept_set (kept_trans ((Kept.refl _).alloc _) g1) (by simp) _) (by simp) _) (by simp) _
theorem byte_head (s : ByteArray) (hp0 : 0 < s.size) : s.data.toList = Ky.cfb ((s[0].toNat : Nat) : Int) :: s.data.toList.drop 1 := by
  have hcb : Ky.cfb ((s[0].toNat : Nat) : Int) = s[0] := by unfold Ky.cfb; rw [Int.toNat_natCast, Nm.u8_back]
  have h1 := List.take_append_drop 1 s.data.toList
  rw [take_snoc s 0 hp0] at h1
  rw [hcb]
  exact h1.symm
theorem kread_no (s : ByteArray) (hs : s.size ≤ 4096) (h : ¬ IsKey s.data.toList) (w : World) :
    Calls Try.prog 22 #[.string s] w fun e w' => e = .returned (.tuple #[parts 0 [] 0, .int .i64 2]) ∧ Kept w w' := by
  have hl : s.data.toList.length = s.size := by simp
  by_cases hz : s.size = 0
  · obtain rfl : s = bs [] := bs_of (List.eq_nil_of_length_eq_zero (by rw [hl]; exact hz))
    exact kread_empty w
  · have hp0 : 0 < s.size := by omega
    have hs1 := byte_head s hp0
    rcases Bool.eq_false_or_eq_true (Ky.okF ((s[0].toNat : Nat) : Int)) with hf | hf
    · by_cases hB : Begins (s.data.toList.drop 1)
      · obtain ⟨u, r, hd, hm⟩ := hB
        exact kread_time s _ u r hp0 hs rfl hf hd hm (fun ⟨t, h1, h2⟩ => h ⟨_, u, t, ⟨hf, hm, h2⟩, by rw [hs1, hd, h1]; rfl⟩) w
      · exact kread_key s _ hp0 hs rfl hf hB w
    · exact kread_fam s _ hp0 hs rfl hf w
end Go.Proofs.Ytfllijckoabnmaa
