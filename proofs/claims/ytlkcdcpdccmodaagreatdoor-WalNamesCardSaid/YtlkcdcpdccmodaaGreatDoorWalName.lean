/-
  The contracts of the functions that name logs' files: strconv.FormatUint at base 10, wal.Name, wal.Number.
-/
import Derived.Test.YtlkcdcpdccmodaaGreatDoorLaysW
import Derived.Shelf.Strconv.Itoa1
import Derived.Test.YtlkcdcpdccmodaaGreatDoorWalMath
import Derived.Test.YtlkcdcpdccmodaaGreatDoorFsDisk
import Derived.Lib.SmallJoins
import Derived.Lib.AtoiErrMem
import Derived.Lib.ItoaMem
import Derived.Lib.AppendIntMem
import Derived.Lib.Hide
namespace Go.Proofs.YtlkcdcpdccmodaaGreatDoor
open Go.ChangeShapes Go.WideShapes Go.ChangeAt Go.RowKit Go.Sort
set_option linter.unusedVariables false
set_option maxRecDepth 100000
set_option maxHeartbeats 1000000

theorem glob_tab : Tryz.prog.globalNamed "internal/strconv.uint64pow10" = some 2 := by kernel_rfl
/-- what the library's variables hold that are read here -/
structure Vars (w : World) : Prop where
  tab : Lib.TabIs Tryz.prog w "internal/strconv.uint64pow10" .u64 Lib.pow10Tab
  syn : ∃ t p, w.cell? ⟨0, 0, none⟩ = some (.iface t p)
  rng : ∃ t p, w.cell? ⟨1, 0, none⟩ = some (.iface t p)
/-- their blocks -/
def IsVar (b : Nat) : Prop := b = 2 ∨ b = 0 ∨ b = 1
theorem Vars.same {w w' : World} (h : Vars w) (hs : ∀ b, IsVar b → w'.heap[b]? = w.heap[b]?) : Vars w' := by
  obtain ⟨h1, h2, h3⟩ := h
  refine ⟨?_, ?_, ?_⟩
  · unfold Lib.TabIs World.var? at h1 ⊢
    rw [glob_tab] at h1 ⊢
    simp only [Option.bind_some] at h1 ⊢
    rw [hs _ (.inl rfl)]; exact h1
  · obtain ⟨t, p, e⟩ := h2
    refine ⟨t, p, ?_⟩
    rw [← e]; unfold World.cell?; simp only [hs _ (.inr (.inl rfl))]
  · obtain ⟨t, p, e⟩ := h3
    refine ⟨t, p, ?_⟩
    rw [← e]; unfold World.cell?; simp only [hs _ (.inr (.inr rfl))]
theorem cell_lt {w : World} {b i : Nat} {v : Value} (h : w.cell? ⟨b, i, none⟩ = some v) : b < w.heap.size := by
  unfold World.cell? at h
  rcases Nat.lt_or_ge b w.heap.size with h' | h'
  · exact h'
  · simp [Array.getElem?_eq_none h'] at h
theorem Vars.lt {w : World} (h : Vars w) {b : Nat} (hb : IsVar b) : b < w.heap.size := by
  rcases hb with rfl | rfl | rfl
  · have h1 := h.tab
    unfold Lib.TabIs World.var? at h1
    rw [glob_tab] at h1
    simp only [Option.bind_some] at h1
    rcases Nat.lt_or_ge 2 w.heap.size with h' | h'
    · exact h'
    · rw [Array.getElem?_eq_none h'] at h1; cases h1
  · obtain ⟨t, p, e⟩ := h.syn; exact cell_lt e
  · obtain ⟨t, p, e⟩ := h.rng; exact cell_lt e
theorem Vars.kept {w w' : World} (h : Vars w) (hk : Kept w w') : Vars w' := h.same (fun b hb => Below.block hk b (h.lt hb))
theorem Vars.kp {w w' : World} {K : Nat → Prop} (h : Vars w) (hk : Kp K w w') (hK : ∀ b, IsVar b → K b) : Vars w' := h.same (fun b hb => hk.block b (hK b hb))

/-- a world that grew by blocks, with draws between -/
theorem kept_grow (w : World) (k : Nat) (os : Array Obj) : Kept w (grow (w.drewN k) os) := Lib.below_grow w.heap.size w (Nat.le_refl _) k os
theorem ifmt_small (u : Nat) (hu : u < 100) (w : World) :
    Calls Tryz.prog 97 #[.int .u64 u, .int .i64 10] w fun e w' => e = .returned (.string ⟨(Lib.decDigits u).toArray⟩) ∧ w = w' := by
  have hc := Lib.hid (Any.internal_strconv_small Tryz.laysSmall u hu w)
  go_enter Tryz.func97, Tryz.ntmps97
  go_wp2_with (go_at_call 115; refine hc.out.mono ?_; rintro e w' ⟨rfl, rfl⟩)
  go_ret
  exact ⟨rfl, rfl⟩
theorem ifmt_big (u : Nat) (hu : 100 ≤ u) (h64 : u < 18446744073709551616) (w : World) (hv : Vars w) :
    Calls Tryz.prog 97 #[.int .u64 u, .int .i64 10] w fun e w' => e = .returned (.string ⟨(Lib.decDigits u).toArray⟩) ∧ Kept w w' := by
  have hu1 : 1 ≤ u := by omega
  have hnd20 : Lib.nDigits u ≤ 20 := by have := Lib.numDigits_eq u hu1 h64; split at this <;> omega
  have hal : Tryz.prog.arrayLen 152 = 24 := by simp [Program.arrayLen, Tryz.underlying152]
  have hsl : ∀ W, (Instr.sliceAt 152 (.pointer (some ⟨w.heap.size, 0, none⟩)) none (some (.int .i64 (Lib.nDigits u : Int))) none).run Tryz.prog W = .ok (.slice (some ⟨w.heap.size, 0, none⟩) (Lib.nDigits u) 24) W := fun W => by
    rw [run_sliceAt_array_h W 152 ⟨w.heap.size, 0, none⟩ (by simp [Program.arrayLen, Program.elem, Tryz.underlying152]) .i64 (Lib.nDigits u : Int) (by omega) (by rw [hal]; omega)]
    go_simp
  have hnum := Lib.hid (Any.internal_strconv_numDigits Tryz.laysDigits u hu1 h64 (w.alloc (.cells Lib.zeros24 152)) (Lib.tabIs_alloc hv.tab _))
  have hH0 := Lib.holds_zero0 w 152 (Lib.nDigits u) (by omega)
  have hfmt := Any.internal_strconv_formatBase10 Tryz.laysFmt w.heap.size 0 24 u (Array.replicate (Lib.nDigits u) 0) (w.alloc (.cells Lib.zeros24 152)) hH0 (by rw [Array.size_replicate]; exact Lib.lt_pow_nDigits u) h64 (by rw [Array.size_replicate]; omega)
  rw [Array.size_replicate] at hfmt
  have HF := Lib.hid hfmt; clear hfmt
  have HH0 := Lib.hid hH0; clear hH0 hal
  have iu : (100 : Int) ≤ (u : Int) := by omega
  go_enter Tryz.func97, Tryz.ntmps97
  go_wp2_with fail
  refine hnum.out.mono ?_
  rintro e w1 ⟨rfl, rfl⟩
  go_wp2_with fail
  refine HF.out.mono ?_
  rintro e w2 ⟨rfl, k, v', dk, rfl, hF⟩
  have hcv : ((convert 106 9 (.slice (some ⟨w.heap.size, 0, none⟩) (Lib.nDigits u) 24)).run Tryz.prog ((putRow (fun (b : UInt8) => Value.int .u8 (b.toNat : Int)) (w.alloc (.cells Lib.zeros24 152)) w.heap.size 0 dk).drewN k)) = .ok (.string ⟨(Lib.decDigits u).toArray⟩) ((putRow (fun (b : UInt8) => Value.int .u8 (b.toNat : Int)) (w.alloc (.cells Lib.zeros24 152)) w.heap.size 0 dk).drewN k) := by
    have h := run_convert_bytes_back (P := Tryz.prog) ((putRow (fun (b : UInt8) => Value.int .u8 (b.toNat : Int)) (w.alloc (.cells Lib.zeros24 152)) w.heap.size 0 dk).drewN k) 106 9 5 ⟨w.heap.size, 0, none⟩ 24 (Lib.decDigits u) Tryz.underlying106 Tryz.underlying5 Tryz.underlying9 (fun j hj => by
      rw [Lib.row_is_numeral hF j hj, Lib.add_plain, World.cell?_drewN]
      exact cell?_putRow (fun (b : UInt8) => Value.int .u8 (b.toNat : Int)) _ w.heap.size 0 _ dk HH0.out (by rw [hF.size, Array.size_replicate]) j (by rw [hF.size]; rw [Lib.decDigits_length] at hj; exact hj))
    rw [Lib.decDigits_length] at h
    exact h
  have hk : Kept w ((putRow (fun (b : UInt8) => Value.int .u8 (b.toNat : Int)) (w.alloc (.cells Lib.zeros24 152)) w.heap.size 0 dk).drewN k) := by
    obtain ⟨os, eo⟩ := Lib.fin_at w (.cells Lib.zeros24 152) dk k 0
    rw [eo]; exact kept_grow w k os
  generalize (putRow (fun (b : UInt8) => Value.int .u8 (b.toNat : Int)) (w.alloc (.cells Lib.zeros24 152)) w.heap.size 0 dk).drewN k = W2 at hcv hk ⊢
  clear HH0 hnum HF hF
  go_wp2
  go_ret
  exact ⟨rfl, hk⟩
/-- strconv.FormatUint(u, 10) -/
theorem fmt_any (u : Nat) (h64 : u < 18446744073709551616) (w : World) (hv : Vars w) :
    Calls Tryz.prog 70 #[.int .u64 u, .int .i64 10] w fun e w' => e = .returned (.string ⟨(Lib.decDigits u).toArray⟩) ∧ Kept w w' := by
  have hc : Calls Tryz.prog 97 #[.int .u64 u, .int .i64 10] w fun e w' => e = .returned (.string ⟨(Lib.decDigits u).toArray⟩) ∧ Kept w w' := by
    by_cases hu : u < 100
    · exact (ifmt_small u hu w).mono fun e w' ⟨he, hw⟩ => ⟨he, hw ▸ Kept.refl w⟩
    · exact ifmt_big u (by omega) h64 w hv
  have HC := Lib.hid hc; clear hc
  go_enter Tryz.func70, Tryz.ntmps70
  go_wp2_with (go_at_call 97; refine HC.out.mono ?_; rintro e w' ⟨rfl, hk⟩)
  go_ret
  exact ⟨rfl, hk⟩
theorem bs_app2 (a b : List UInt8) : bs a ++ bs b = bs (a ++ b) := bs_of (by simp [bs, ByteArray.data_append])
theorem wbs_toList (l : List UInt8) : (bs l).toList = l := by rw [Lib.toList_data]; rfl
theorem bs_pre (l : List UInt8) : (⟨#[119, 97, 108, 46]⟩ : ByteArray) ++ ⟨l.toArray⟩ = bs (Wl.pre ++ l) := bs_app2 Wl.pre l
/-- wal.Name -/
theorem wname_any (n : Nat) (h64 : n < 18446744073709551616) (w : World) (hv : Vars w) :
    Calls Tryz.prog 39 #[.int .u64 n] w fun e w' => e = .returned (.string (bs (Wl.name n))) ∧ Kept w w' := by
  have HC := Lib.hid (fmt_any n h64 w hv)
  unfold Wl.name
  by_cases h : n ≤ 1099511627776
  · have h1 : ¬ (1099511627776 : Int) < (n : Int) := by omega
    have hl := (Wl.digits_len h).2
    have hl2 : ¬ 9223372036854775807 < 4 + (Lib.decDigits n).length := by omega
    rw [if_pos h]
    go_enter Tryz.func39, Tryz.ntmps39
    go_wp2_with fail
    refine HC.out.mono ?_
    rintro e w' ⟨rfl, hk⟩
    go_wp2_with fail
    go_ret
    exact ⟨by rw [bs_pre]; rfl, hk⟩
  · have h1 : (1099511627776 : Int) < (n : Int) := by omega
    rw [if_neg h]
    go_enter Tryz.func39, Tryz.ntmps39
    go_wp2_with fail
    go_ret
    exact ⟨rfl, Kept.refl w⟩
theorem wname_nm {n : Nat} (h : n ≤ 1099511627776) (w : World) (hv : Vars w) :
    Calls Tryz.prog 39 #[.int .u64 n] w fun e w' => e = .returned (.string (bs (Wl.nm n))) ∧ Kept w w' := by
  have := wname_any n (by omega) w hv
  rwa [Wl.name_nm h] at this
/-- strings.CutPrefix(name, "wal.") -/
theorem cut_yes (r : List UInt8) (w : World) :
    Calls Tryz.prog 67 #[.string (bs (Wl.pre ++ r)), .string ⟨#[119, 97, 108, 46]⟩] w fun e w' => e = .returned (.tuple #[.string (bs r), .bool true]) ∧ w = w' := by
  have h := Any.strings_CutPrefix Tryz.laysCut (bs (Wl.pre ++ r)) ⟨#[119, 97, 108, 46]⟩ w
  have e1 : Lib.hasPrefix (bs (Wl.pre ++ r)).data.toList (⟨#[119, 97, 108, 46]⟩ : ByteArray).data.toList = true := by
    show List.isPrefixOf Wl.pre (Wl.pre ++ r) = true
    exact List.isPrefixOf_iff_prefix.2 (List.prefix_append _ _)
  have e2 : Lib.trimPrefix (bs (Wl.pre ++ r)).data.toList (⟨#[119, 97, 108, 46]⟩ : ByteArray).data.toList = r := by
    unfold Lib.trimPrefix; rw [if_pos e1]; rfl
  rw [e1, e2] at h
  exact h.mono fun e w' ⟨he, hw⟩ => ⟨he, hw.symm⟩
theorem cut_no (s : ByteArray) (hs : ¬ Wl.pre <+: s.data.toList) (w : World) :
    Calls Tryz.prog 67 #[.string s, .string ⟨#[119, 97, 108, 46]⟩] w fun e w' => e = .returned (.tuple #[.string s, .bool false]) ∧ w = w' := by
  have h := Any.strings_CutPrefix Tryz.laysCut s ⟨#[119, 97, 108, 46]⟩ w
  have e1 : Lib.hasPrefix s.data.toList (⟨#[119, 97, 108, 46]⟩ : ByteArray).data.toList = false := by
    cases e : Lib.hasPrefix s.data.toList (⟨#[119, 97, 108, 46]⟩ : ByteArray).data.toList with
    | false => rfl
    | true => exact absurd (List.isPrefixOf_iff_prefix.1 e) hs
  have e2 : Lib.trimPrefix s.data.toList (⟨#[119, 97, 108, 46]⟩ : ByteArray).data.toList = s.data.toList := by
    unfold Lib.trimPrefix; rw [e1]; rfl
  rw [e1, e2] at h
  exact h.mono fun e w' ⟨he, hw⟩ => ⟨he, hw.symm⟩
/-- a number's text is read -/
theorem parse_ok (r : List UInt8) (u : Nat) (hr : r.length ≤ 281474976710656) (h : Lib.parseUintB 64 r = .ok u) (w : World) :
    Calls Tryz.prog 68 #[.string (bs r), .int .i64 10, .int .i64 64] w fun e w' => e = .returned (.tuple #[.int .u64 u, .nilIface]) ∧ Kept w w' :=
  (Any.strconv_ParseUint_10_at64_ok Tryz.laysPu (bs r) (by simp [bs, ByteArray.size]; omega) u h w).mono fun e w' ⟨he, hw⟩ => ⟨he, by
    rcases hw with rfl | rfl
    · exact Kept.refl _
    · exact Lib.bytesWorld_below _ _ _⟩
theorem parse_not (r : List UInt8) (hr : r.length ≤ 281474976710656) (h : ∀ u, Lib.parseUintB 64 r ≠ .ok u) (w : World) (hv : Vars w) :
    Calls Tryz.prog 68 #[.string (bs r), .int .i64 10, .int .i64 64] w fun e w' => (∃ x N, e = .returned (.tuple #[.int .u64 x, .iface (Tryz.laysPu_ren.t 39) (.pointer (some ⟨N, 0, none⟩))])) ∧ Kept w w' := by
  have hl : (bs r).size ≤ 281474976710656 := by simp [bs, ByteArray.size]; omega
  cases e : Lib.parseUintB 64 r with
  | ok u => exact absurd e (h u)
  | «syntax» =>
    obtain ⟨t, p, hc⟩ := hv.syn
    exact (Any.strconv_ParseUint_10_at64_syntax Tryz.laysPu (bs r) hl e _ w hc (.inr ⟨t, p, rfl⟩)).mono fun e w' ⟨N, he, _, _, hb⟩ => ⟨⟨_, N, he⟩, hb⟩
  | range =>
    obtain ⟨t, p, hc⟩ := hv.rng
    exact (Any.strconv_ParseUint_10_at64_range Tryz.laysPu (bs r) hl e _ w hc (.inr ⟨t, p, rfl⟩)).mono fun e w' ⟨N, he, _, _, hb⟩ => ⟨⟨_, N, he⟩, hb⟩
/-- wal.Number, at a name that is none's -/
theorem wnumber_pre (s : ByteArray) (hs : ¬ Wl.pre <+: s.data.toList) (w : World) :
    Calls Tryz.prog 37 #[.string s] w fun e w' => e = .returned (.tuple #[.int .u64 0, .bool false]) ∧ Kept w w' := by
  have HC := Lib.hid (cut_no s hs w)
  go_enter Tryz.func37, Tryz.ntmps37
  go_wp2_with fail
  refine HC.out.mono ?_
  rintro e w' ⟨rfl, rfl⟩
  go_wp2_with fail
  go_ret2
  exact ⟨rfl, Kept.refl _⟩
theorem wnumber_syn (r : List UInt8) (hr : r.length ≤ 281474976710656) (h : ∀ u, Lib.parseUintB 64 r ≠ .ok u) (w : World) (hv : Vars w) :
    Calls Tryz.prog 37 #[.string (bs (Wl.pre ++ r))] w fun e w' => e = .returned (.tuple #[.int .u64 0, .bool false]) ∧ Kept w w' := by
  have HC := Lib.hid (cut_yes r w)
  have HP := Lib.hid (parse_not r hr h w hv)
  generalize bs (Wl.pre ++ r) = S at HC ⊢
  go_enter Tryz.func37, Tryz.ntmps37
  go_wp2_with fail
  refine HC.out.mono ?_
  rintro e w' ⟨rfl, rfl⟩
  go_wp2_with fail
  refine HP.out.mono ?_
  rintro e w' ⟨⟨x, N, rfl⟩, hk⟩
  go_wp2_with fail
  go_ret2
  exact ⟨rfl, hk⟩
theorem wnumber_ne (r : List UInt8) (u : Nat) (hr : r.length ≤ 281474976710656) (h : Lib.parseUintB 64 r = .ok u) (hne : Wl.name u ≠ Wl.pre ++ r) (w : World) (hv : Vars w) :
    Calls Tryz.prog 37 #[.string (bs (Wl.pre ++ r))] w fun e w' => e = .returned (.tuple #[.int .u64 0, .bool false]) ∧ Kept w w' := by
  have HC := Lib.hid (cut_yes r w)
  have HP := Lib.hid (parse_ok r u hr h w)
  have hu := Wl.parse_lt h
  have hb : ((bs (Wl.name u)).toList == (bs (Wl.pre ++ r)).toList) = false := by rw [wbs_toList, wbs_toList]; simpa using hne
  have HN := Lib.hid (fun w' (hk : Kept w w') => wname_any u (by omega) w' (hv.kept hk))
  generalize bs (Wl.pre ++ r) = S at HC hb ⊢
  generalize bs (Wl.name u) = T at HN hb
  go_enter Tryz.func37, Tryz.ntmps37
  go_wp2_with fail
  refine HC.out.mono ?_
  rintro e w' ⟨rfl, rfl⟩
  go_wp2_with fail
  refine HP.out.mono ?_
  rintro e w' ⟨rfl, hk⟩
  go_wp2_with fail
  refine (HN.out w' hk).mono ?_
  rintro e w2 ⟨rfl, hk2⟩
  go_wp2_with fail
  go_ret2
  exact ⟨rfl, kept_trans hk hk2⟩
theorem wnumber_eq (r : List UInt8) (u : Nat) (hr : r.length ≤ 281474976710656) (h : Lib.parseUintB 64 r = .ok u) (he : Wl.name u = Wl.pre ++ r) (w : World) (hv : Vars w) :
    Calls Tryz.prog 37 #[.string (bs (Wl.pre ++ r))] w fun e w' => e = .returned (.tuple #[.int .u64 u, .bool true]) ∧ Kept w w' := by
  have HC := Lib.hid (cut_yes r w)
  have HP := Lib.hid (parse_ok r u hr h w)
  have hu := Wl.parse_lt h
  have hb : ((bs (Wl.name u)).toList == (bs (Wl.pre ++ r)).toList) = true := by rw [wbs_toList, wbs_toList]; simpa using he
  have HN := Lib.hid (fun w' (hk : Kept w w') => wname_any u (by omega) w' (hv.kept hk))
  generalize bs (Wl.pre ++ r) = S at HC hb ⊢
  generalize bs (Wl.name u) = T at HN hb
  go_enter Tryz.func37, Tryz.ntmps37
  go_wp2_with fail
  refine HC.out.mono ?_
  rintro e w' ⟨rfl, rfl⟩
  go_wp2_with fail
  refine HP.out.mono ?_
  rintro e w' ⟨rfl, hk⟩
  go_wp2_with fail
  refine (HN.out w' hk).mono ?_
  rintro e w2 ⟨rfl, hk2⟩
  go_wp2_with fail
  go_ret2
  exact ⟨rfl, kept_trans hk hk2⟩
theorem pre_split {l : List UInt8} (h : Wl.pre <+: l) : ∃ r, l = Wl.pre ++ r := by obtain ⟨r, e⟩ := h; exact ⟨r, e.symm⟩
theorem wnumber_none (s : ByteArray) (hs : s.size ≤ 281474976710656) (h : Wl.number s.data.toList = none) (w : World) (hv : Vars w) :
    Calls Tryz.prog 37 #[.string s] w fun e w' => e = .returned (.tuple #[.int .u64 0, .bool false]) ∧ Kept w w' := by
  by_cases hp : Wl.pre <+: s.data.toList
  · obtain ⟨r, e⟩ := pre_split hp
    have hr : r.length ≤ 281474976710656 := by
      have := congrArg List.length e
      rw [List.length_append] at this
      have h2 : s.data.toList.length = s.size := by simp
      omega
    have es : s = bs (Wl.pre ++ r) := bs_of e
    subst es
    rw [bs_data] at h
    cases ep : Lib.parseUintB 64 r with
    | ok u =>
      rw [Wl.number_ok ep] at h
      refine wnumber_ne r u hr ep (fun e' => ?_) w hv
      rw [if_pos e'] at h; cases h
    | «syntax» => exact wnumber_syn r hr (fun u e' => by rw [ep] at e'; cases e') w hv
    | range => exact wnumber_syn r hr (fun u e' => by rw [ep] at e'; cases e') w hv
  · exact wnumber_pre s hp w
theorem wnumber_some {n : Nat} (h : n ≤ 1099511627776) (w : World) (hv : Vars w) :
    Calls Tryz.prog 37 #[.string (bs (Wl.nm n))] w fun e w' => e = .returned (.tuple #[.int .u64 n, .bool true]) ∧ Kept w w' :=
  wnumber_eq (Lib.decDigits n) n (by have := Wl.digits_len h; omega) (Wl.parseB_digits n h) (Wl.name_nm h) w hv
end Go.Proofs.YtlkcdcpdccmodaaGreatDoor
