/-
  The document's own table of layer 7: how many bytes, how long a search is.
-/
import Derived.Test.YtpbhbgoaaephgaaMemRefTwo
namespace Go.Proofs.Ytpbhbgoaaephgaa
open Go.ChangeShapes Go.WideShapes Go.ChangeAt Go.RowKit
set_option linter.unusedVariables false
set_option maxRecDepth 100000
set_option maxHeartbeats 1000000

def rsizeTo (T : List Mm.Tv) (i : Nat) : Nat := (((Mm.ents T).take i).map Mm.sizeE).sum
theorem rsizeTo_step {T : List Mm.Tv} {i : Nat} {x : Mm.Ent} (h : (Mm.ents T)[i]? = some x) : rsizeTo T (i + 1) = rsizeTo T i + Mm.sizeE x := by
  unfold rsizeTo
  rw [List.take_add_one, h]
  simp
theorem rsizeTo_end (T : List Mm.Tv) : rsizeTo T T.length = Mm.size T := by
  unfold rsizeTo
  rw [List.take_of_length_le (by rw [Mm.ents_len]; omega)]
  simp [Mm.size, Mm.ents, Function.comp_def]
theorem rsizeTo_le {T : List Mm.Tv} (g : Mm.Good T) (i : Nat) : rsizeTo T i ≤ 200 * i := by
  induction i with
  | zero => simp [rsizeTo]
  | succ i ih =>
    cases h : (Mm.ents T)[i]? with
    | some x =>
      rw [rsizeTo_step h]
      obtain ⟨z, hz, rfl⟩ := Mm.at_ents h
      have := Mm.may_iff.1 (g.may z (List.mem_of_getElem? hz))
      unfold Mm.sizeE; omega
    | none =>
      unfold rsizeTo at *
      rw [List.take_add_one, h]
      simp only [Option.toList_none, List.append_nil]
      omega
section
variable {w w' : World} {r : Nat} {G F : Nat → Prop} {T : List Mm.Tv} {AL AH : Option Addr} {cL cH : Nat}
theorem rsize_of (h : Rt w r G T) :
    Calls Try.prog 33 #[.pointer (some ⟨r, 0, none⟩)] w fun e w' => e = .returned (.int .i64 (Mm.size T : Nat)) ∧ Kept w w' := by
  obtain ⟨AL, cL, AH, cH, h⟩ := h
  have hf := h.few
  have hel := Mm.ents_len T
  have HG := Lib.hid h.good
  have HELS := Lib.hid (fun W (k : Kept w W) => (h.kept k).els)
  have HR := Lib.hid (fun W (k : Kept w W) => mcell (h.kept k).blk 0 rfl)
  rw [← rsizeTo_end]
  have HEL := Lib.hid hel
  clear h hel
  go_enter Try.func33, Try.ntmps33
  go_wp2_with fail
  go_loopw [3, 4] (fun n t wi => ∃ i : Nat, i ≤ T.length ∧ t = .int .i64 i ∧ n = .int .i64 (rsizeTo T i : Nat) ∧ Kept w wi) (fun _ t _ => T.length - (intOf t).toNat)
  case atStart => exact ⟨0, Nat.zero_le _, rfl, rfl, Kept.refl _⟩
  case round =>
    obtain ⟨i, hi, rfl, rfl, ki⟩ := hrel
    have r0 := HR.out wr ki
    by_cases hit : i < T.length
    · obtain ⟨z, hz⟩ : ∃ z, T[i]? = some z := ⟨_, List.getElem?_eq_getElem hit⟩
      have hy := Mm.ents_at hz
      have hst := rsizeTo_step hy
      have hle := rsizeTo_le HG.out i
      have hmy := Mm.may_iff.1 (HG.out.may z (List.mem_of_getElem? hz))
      obtain ⟨b, o, rfl, hb, c0, c1, c2, c3⟩ := (HELS.out wr ki) i z.1 hy
      have s1 : (bs z.1.key).size ≤ 100 := by rw [mbs_size]; omega
      have s2 : (bs z.1.val).size ≤ 100 := by rw [mbs_size]; omega
      have hst2 : ((rsizeTo T (i + 1) : Nat) : Int) = (rsizeTo T i : Int) + (((bs z.1.key).size : Int) + ((bs z.1.val).size : Int)) := by rw [hst, mbs_size, mbs_size]; unfold Mm.sizeE; omega
      have HST := Lib.hid hst2
      have hw1 : IntKind.i64.wrap (((bs z.1.key).size : Int) + ((bs z.1.val).size : Int)) = ((bs z.1.key).size : Int) + ((bs z.1.val).size : Int) := IntWalk.i64_in _ ⟨by omega, by omega⟩
      have hw2 : IntKind.i64.wrap ((rsizeTo T i : Int) + (((bs z.1.key).size : Int) + ((bs z.1.val).size : Int))) = (rsizeTo T i : Int) + (((bs z.1.key).size : Int) + ((bs z.1.val).size : Int)) := IntWalk.i64_in _ ⟨by omega, by omega⟩
      clear hy hz hst hst2 hmy
      generalize hS : rsizeTo T i = S at *
      go_wp2_with fail
      go_quiet (fail)
      go_wp2_with fail
      go_roundw
      case rel => exact ⟨i + 1, by omega, by go_num, by rw [HST.out], kept_trans ki (kept_drewN _ _)⟩
      case measure => simp [intOf]; omega
    · have e : i = T.length := by omega
      subst e
      go_wp2_with fail
      go_ret
      exact ⟨rfl, ki⟩
/-- no height between is greater -/
def Btw (hs : List Nat) (i j : Nat) (h : Nat) : Prop := ∀ (m x : Nat), i < m → m < j → hs[m]? = some x → x ≤ h
theorem stp_drop {hs : List Nat} {i h : Nat} (hi : hs[i]? = some h) (h1 : 1 ≤ h) : (Btw hs i hs.length h → Mm.stp 0 (hs.drop i) = 1 + Mm.stp 0 (hs.drop (i + 1))) ∧ (¬ Btw hs i hs.length h → Mm.stp 0 (hs.drop i) = Mm.stp 0 (hs.drop (i + 1))) := by
  have e : hs.drop i = h :: hs.drop (i + 1) := by rw [List.drop_eq_getElem?_toList_append, hi]; rfl
  have hq : (0 < h ∧ ∀ x ∈ hs.drop (i + 1), x ≤ h) ↔ Btw hs i hs.length h := by
    constructor
    · rintro ⟨_, a⟩ m x h2 h3 hx
      exact a x (List.mem_iff_getElem?.2 ⟨m - (i + 1), by rw [List.getElem?_drop, show i + 1 + (m - (i + 1)) = m by omega]; exact hx⟩)
    · intro a
      refine ⟨by omega, fun x hx => ?_⟩
      obtain ⟨m, hm⟩ := List.mem_iff_getElem?.1 hx
      rw [List.getElem?_drop] at hm
      exact a (i + 1 + m) x (by omega) (List.getElem?_eq_some_iff.1 hm).1 hm
  rw [e, Mm.stp]
  exact ⟨fun q => by rw [if_pos (hq.2 q)], fun q => by rw [if_neg (fun c => q (hq.1 c)), Nat.zero_add]⟩
theorem btw_step {hs : List Nat} {i j h x : Nat} (hij : i < j) (hx : hs[j]? = some x) : Btw hs i (j + 1) h ↔ Btw hs i j h ∧ x ≤ h := by
  constructor
  · intro a
    exact ⟨fun m y h1 h2 h3 => a m y h1 (by omega) h3, a j x hij (by omega) hx⟩
  · rintro ⟨a, b⟩ m y h1 h2 h3
    rcases Nat.lt_or_ge m j with q | q
    · exact a m y h1 q h3
    · have : m = j := by omega
      subst this
      rw [hx] at h3
      cases h3
      exact b
theorem btw_start (hs : List Nat) (i h : Nat) : Btw hs i (i + 1) h := fun m x h1 h2 _ => by omega
theorem rsteps_any (h : Rt w r G T) (K : List UInt8) (S : Nat) :
    Calls Try.prog 35 #[.pointer (some ⟨r, 0, none⟩), .string (bs K), .int .u64 (S : Nat)] w fun e w' => e = .returned (.int .i64 (Mm.stp 0 (Mm.hts (Mm.A T K S)) : Nat)) ∧ Kept w w' := by
  have hpl := rplace_any h K S
  obtain ⟨AL, cL, AH, cH, h⟩ := h
  have hf := h.few
  have hAl := Mm.A_len_le T K S
  have HLS := Lib.hid (fun W (k : Kept w W) => (h.kept k).hls)
  have HR := Lib.hid (fun W (k : Kept w W) => mcell (h.kept k).blk 1 rfl)
  have hlow : ∀ (m x : Nat), (Mm.hts (Mm.A T K S))[m]? = some x → 1 ≤ x ∧ x ≤ 8 ∧ (Mm.hts T)[m]? = some x := fun m x hx => by
    have h1 : (Mm.hts T)[m]? = some x := by
      have e : Mm.hts T = Mm.hts (Mm.A T K S) ++ Mm.hts (Mm.Z T K S) := by
        conv => lhs; rw [← Mm.AZ T K S]
        simp [Mm.hts]
      rw [e, List.getElem?_append_left (List.getElem?_eq_some_iff.1 hx).1]
      exact hx
    obtain ⟨y, hy, rfl⟩ := List.mem_map.1 (List.mem_of_getElem? h1)
    exact ⟨h.good.low y hy, h.good.high y hy, h1⟩
  have hsl : (Mm.hts (Mm.A T K S)).length = (Mm.A T K S).length := Mm.hts_len _
  have hstl := Mm.stp_le 0 (Mm.hts (Mm.A T K S))
  generalize (Mm.A T K S).length = k at *
  generalize Mm.hts (Mm.A T K S) = hs at *
  have HLOW := Lib.hid hlow
  have HSL := Lib.hid hsl
  clear h hlow hsl
  generalize hTL : T.length = TL at *
  clear hTL
  go_enter Try.func35, Try.ntmps35
  go_wp2_with fail
  refine hpl.mono ?_
  rintro e w1 ⟨rfl, g1⟩
  go_wp2_with fail
  go_loopw [8, 9] (fun n t wi => ∃ (i c : Nat), i ≤ k ∧ t = .int .i64 i ∧ n = .int .i64 (c : Nat) ∧ Hid (c + Mm.stp 0 (hs.drop i) = Mm.stp 0 hs) ∧ Kept w wi) (fun _ t _ => k - (intOf t).toNat)
  case atStart => exact ⟨0, 0, Nat.zero_le _, rfl, rfl, Lib.hid (by simp), g1⟩
  case round =>
    obtain ⟨i, c, hi, rfl, rfl, HN, ki⟩ := hrel
    have hcb : c ≤ 1000 := by have := HN.out; have := HSL.out; omega
    by_cases hit : i < k
    · obtain ⟨x, hx⟩ : ∃ x, hs[i]? = some x := ⟨_, List.getElem?_eq_getElem (by rw [HSL.out]; exact hit)⟩
      obtain ⟨x1, x8, hxT⟩ := HLOW.out i x hx
      have hsd := stp_drop hx x1
      rw [HSL.out] at hsd
      have HSD := Lib.hid hsd
      have HXT := Lib.hid hxT
      clear hsd hx hxT
      go_wp2_with fail
      go_loopw [10, 11] (fun p t wj => ∃ (j : Nat) (pb : Bool), i + 1 ≤ j ∧ j ≤ k ∧ t = .int .i64 j ∧ p = .bool pb ∧ Hid (pb = true ↔ Btw hs i j x) ∧ Kept w wj) (fun _ t _ => k - (intOf t).toNat)
      case atStart => exact ⟨i + 1, true, Nat.le_refl _, by omega, by go_num, rfl, Lib.hid ⟨fun _ => btw_start _ _ _, fun _ => rfl⟩, ki⟩
      case round =>
        clear ki
        obtain ⟨j, pb, hj1, hj2, rfl, rfl, HP, kj⟩ := hrel
        by_cases hjt : j < k
        · obtain ⟨y, hy⟩ : ∃ y, hs[j]? = some y := ⟨_, List.getElem?_eq_getElem (by rw [HSL.out]; exact hjt)⟩
          obtain ⟨y1, y8, hyT⟩ := HLOW.out j y hy
          have hbs := btw_step (h := x) (show i < j by omega) hy
          have r1 := HR.out wr kj
          obtain ⟨b, o, rfl, hb, a0⟩ := (HLS.out wr kj) i x HXT.out
          obtain ⟨b', o', e', _, a1⟩ := (HLS.out wr kj) j y hyT
          cases e'
          have hjTL : j < TL := by omega
          have hiTL : i < TL := by omega
          clear hy hyT
          cases pb with
          | false =>
            have HP2 : Hid ((false : Bool) = true ↔ Btw hs i (j + 1) x) := Lib.hid ⟨fun q => by (cases q), fun q => HP.out.2 (hbs.1 q).1⟩
            clear hbs
            go_wp2_with fail
            go_quiet (fail)
            go_wp2_with fail
            go_roundw
            case rel => exact ⟨j + 1, false, by omega, by omega, by go_num, rfl, HP2, kept_trans kj (kept_drewN _ _)⟩
            case measure => simp [intOf]; omega
          | true =>
            have HP2 : Hid (decide ((y : Int) ≤ (x : Int)) = true ↔ Btw hs i (j + 1) x) := Lib.hid (by
              rw [hbs, decide_eq_true_iff]
              constructor
              · intro q; exact ⟨HP.out.1 rfl, by omega⟩
              · intro q; have := q.2; omega)
            clear hbs
            go_wp2_with fail
            go_quiet (fail)
            go_wp2_with fail
            go_roundw
            case rel => exact ⟨j + 1, decide ((y : Int) ≤ (x : Int)), by omega, by omega, by go_num, by first | rfl | simp, HP2, kept_trans kj (kept_drewN _ _)⟩
            case measure => simp [intOf]; omega
        · have e : j = k := by omega
          subst e
          cases pb with
          | true =>
            have HN2 : Hid (c + 1 + Mm.stp 0 (hs.drop (i + 1)) = Mm.stp 0 hs) := Lib.hid (by
              have q := HN.out
              rw [HSD.out.1 (HP.out.1 rfl)] at q
              omega)
            go_wp2_with fail
            go_roundw
            case rel => exact ⟨i + 1, c + 1, by omega, by go_num, by go_num, HN2, kj⟩
            case measure => simp [intOf]; omega
          | false =>
            have HN2 : Hid (c + Mm.stp 0 (hs.drop (i + 1)) = Mm.stp 0 hs) := Lib.hid (by
              have q := HN.out
              rw [HSD.out.2 (fun z => by have := HP.out.2 z; cases this)] at q
              omega)
            go_wp2_with fail
            go_roundw
            case rel => exact ⟨i + 1, c, by omega, by go_num, rfl, HN2, kj⟩
            case measure => simp [intOf]; omega
    · have e : i = k := by omega
      subst e
      have q := HN.out
      rw [List.drop_of_length_le (by rw [HSL.out]; omega)] at q
      have q2 : c = Mm.stp 0 hs := by simpa [Mm.stp] using q
      have HQ := Lib.hid q2
      clear q q2
      go_wp2_with fail
      go_ret
      exact ⟨by rw [← HQ.out]; rfl, ki⟩
end
end Go.Proofs.Ytpbhbgoaaephgaa
