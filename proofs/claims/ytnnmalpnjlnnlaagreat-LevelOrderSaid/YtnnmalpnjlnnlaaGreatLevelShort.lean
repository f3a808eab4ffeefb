/-
  Package level over memory: numbers' short bytes one behind the other; a text behind how many bytes it has.
-/
import Derived.Test.YtnnmalpnjlnnlaaGreatPackLvD
import Derived.Test.YtnnmalpnjlnnlaaGreatLevelEnc
import Derived.Test.YtnnmalpnjlnnlaaGreatBuilder
import Derived.Test.YtnnmalpnjlnnlaaGreatNumFns
namespace Go.Proofs.YtnnmalpnjlnnlaaGreat
open Go.ChangeShapes Go.WideShapes Go.ChangeAt Go.RowKit
set_option linter.unusedVariables false
set_option maxRecDepth 100000
set_option maxHeartbeats 8000000
open Lv
theorem encG_le (l : List Nat) (h : ∀ x ∈ l, x ≤ 18446744073709551615) : (encG l).length ≤ 10 * l.length := by
  induction l with
  | nil => simp [encG]
  | cons x l ih =>
    have h1 := ih (fun y hy => h y (List.mem_cons_of_mem _ hy))
    have h2 := Nm.short_len x (by have := h x (by simp); omega)
    have h3 := (Nm.sz_le x (by have := h x (by simp); omega)).2
    have e : encG (x :: l) = Nm.short x ++ encG l := by simp [encG]
    rw [e, List.length_append, List.length_cons]
    omega
theorem lvshorts_any {A : Option Addr} {l : List Nat} {w : World} (hA : Nus w A l) (hn : ∀ x ∈ l, x ≤ 18446744073709551615) (hl : l.length ≤ 1000) (c : Nat) :
    Calls Tryz.prog 61 #[.slice A l.length c] w fun e w' => e = .returned (.string (bs (encG l))) ∧ Kept w w' := by
  have HA := Lib.hid hA; have HN := Lib.hid hn
  clear hA hn
  go_enter Tryz.func61, Tryz.ntmps61
  go_wp2_with fail
  go_loopw [8] (fun t wr => ∃ k : Nat, k ≤ l.length ∧ t = .int .i64 k ∧ Hid (Bld w.heap.size w.heap.size (encG (l.take k)) wr) ∧ Hid (Kept w wr)) (fun t _ => l.length - (intOf t).toNat)
  case atStart => exact ⟨0, Nat.zero_le _, rfl, Lib.hid (by simpa [encG] using bld_new w), (Kept.refl _).alloc _⟩
  case round =>
    obtain ⟨k, hk, rfl, HB, HK⟩ := hrel
    have hlw := Below.size HK.out
    by_cases hlt : k < l.length
    · obtain ⟨x, hx⟩ : ∃ x, l[k]? = some x := ⟨_, List.getElem?_eq_getElem hlt⟩
      obtain ⟨b, o, rfl, hb, cx⟩ := (HA.out.kept HK.out) k x hx
      have hxb := HN.out x (List.mem_of_getElem? hx)
      have HS := Lib.hid (fun W => short_any (x : Int) (by omega) (by omega) W)
      rw [Int.toNat_natCast] at HS
      have HT := Lib.hid (show encG (l.take (k + 1)) = encG (l.take k) ++ Nm.short x by rw [List.take_add_one, hx]; exact encG_app _ _)
      have hle := encG_le (l.take k) (fun y hy => HN.out y (List.mem_of_mem_take hy))
      rw [List.length_take] at hle
      have hsz : (bs (Nm.short x)).size ≤ 10 := by rw [lvbs_size, Nm.short_len x (by omega)]; exact (Nm.sz_le x (by omega)).2
      generalize hE : encG (l.take k) = E at *
      clear hx hE
      go_wp2_with fail
      refine (HS.out _).mono ?_
      rintro e w1 ⟨rfl, g1⟩
      have HB1 := Lib.hid (HB.out.kept g1)
      have HK1 := Lib.hid (kept_trans HK.out g1)
      clear cx g1
      go_wp2_with fail
      refine (bld_write w.heap.size w.heap.size E (bs (Nm.short x)) _ HB1.out (by omega) (Below.size HK1.out)).mono ?_
      rintro e w2 ⟨rfl, hB2, g2⟩
      rw [bs_data, ← HT.out] at hB2
      have HB2 := Lib.hid hB2
      have HK2 := Lib.hid (show Kept w w2 from Below.trans HK1.out g2)
      clear hB2 g2
      go_wp2_with fail
      go_roundw
      case rel => exact ⟨k + 1, by omega, by go_num, HB2, HK2⟩
      case measure => simp [intOf]; omega
    · obtain rfl : k = l.length := by omega
      rw [List.take_length] at HB
      go_wp2_with fail
      refine (bld_string w.heap.size w.heap.size _ _ HB.out hlw).mono ?_
      rintro e w6 ⟨rfl, g6⟩
      go_wp2_with fail
      go_ret
      exact ⟨rfl, Below.trans HK.out g6⟩
theorem lvsized_any (t : List UInt8) (ht : t.length ≤ 100000) (w : World) : Calls Tryz.prog 89 #[.string (bs t)] w fun e w' => e = .returned (.string (bs (szd t))) ∧ Kept w w' := by
  have hz := lvbs_size t
  have hz2 : (bs t).size ≤ 100000 := by omega
  have hw : IntKind.u64.wrap ((bs t).size : Int) = ((bs t).size : Int) := by rw [IntKind.wrap_u64]; omega
  have HS := Lib.hid (lvshorts_any (A := some ⟨w.heap.size, 0, none⟩) (l := [t.length]) (w := w.alloc (.cells #[.int .u64 ((bs t).size : Int)] 32)) (fun j x hx => by
    refine ⟨w.heap.size, 0, rfl, by simp, ?_⟩
    cases j with
    | zero =>
      simp at hx
      subst hx
      rw [← hz]
      exact mcell (malloc_new w _) 0 (by rfl)
    | succ j => simp at hx) (fun x hx => by simp at hx; omega) (by simp) 1)
  have hsl : (bs (encG [t.length])).size ≤ 10 := by rw [lvbs_size]; have := encG_le [t.length] (fun x hx => by simp at hx; omega); simpa using this
  have HE := Lib.hid (show bs (encG [t.length]) ++ bs t = bs (szd t) by simp [encG, szd, bs, ByteArray.ext_iff])
  clear hz
  go_enter Tryz.func89, Tryz.ntmps89
  go_wp2_with fail
  refine HS.out.mono ?_
  rintro e w1 ⟨rfl, g1⟩
  have HK := Lib.hid (kept_trans ((Kept.refl w).alloc _) g1)
  go_wp2_with fail
  go_ret
  exact ⟨by rw [← HE.out]; rfl, HK.out⟩
theorem lvshorts_lit2 (x y : Nat) (hx : x ≤ 18446744073709551615) (hy : y ≤ 18446744073709551615) (W : World) :
    Calls Tryz.prog 61 #[.slice (some ⟨W.heap.size, 0, none⟩) 2 2] (W.alloc (.cells #[.int .u64 (x : Nat), .int .u64 (y : Nat)] 32)) fun e w' => e = .returned (.string (bs (encG [x, y]))) ∧ Kept W w' :=
  (lvshorts_any (A := some ⟨W.heap.size, 0, none⟩) (l := [x, y]) (w := W.alloc (.cells #[.int .u64 (x : Nat), .int .u64 (y : Nat)] 32)) (fun j z hz => by
    refine ⟨W.heap.size, 0, rfl, by simp, ?_⟩
    match j, hz with
    | 0, hz => simp at hz; subst hz; exact mcell (malloc_new W _) 0 (by rfl)
    | 1, hz => simp at hz; subst hz; exact mcell (malloc_new W _) 1 (by rfl)) (fun z hz => by simp at hz; omega) (by simp) 2).mono fun e w' ⟨h1, h2⟩ => ⟨h1, kept_trans ((Kept.refl _).alloc _) h2⟩
theorem lvshorts_lit1 (x : Nat) (hx : x ≤ 18446744073709551615) (W : World) :
    Calls Tryz.prog 61 #[.slice (some ⟨W.heap.size, 0, none⟩) 1 1] (W.alloc (.cells #[.int .u64 (x : Nat)] 32)) fun e w' => e = .returned (.string (bs (encG [x]))) ∧ Kept W w' :=
  (lvshorts_any (A := some ⟨W.heap.size, 0, none⟩) (l := [x]) (w := W.alloc (.cells #[.int .u64 (x : Nat)] 32)) (fun j z hz => by
    refine ⟨W.heap.size, 0, rfl, by simp, ?_⟩
    match j, hz with
    | 0, hz => simp at hz; subst hz; exact mcell (malloc_new W _) 0 (by rfl)) (fun z hz => by simp at hz; omega) (by simp) 1).mono fun e w' ⟨h1, h2⟩ => ⟨h1, kept_trans ((Kept.refl _).alloc _) h2⟩
end Go.Proofs.YtnnmalpnjlnnlaaGreat
