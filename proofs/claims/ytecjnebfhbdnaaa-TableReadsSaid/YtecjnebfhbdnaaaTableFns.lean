/-
  Package table: texts are cut, numbers and texts taken, the index read, a table cut by its foot.
-/
import Derived.Test.YtecjnebfhbdnaaaTableRead
import Derived.Test.YtecjnebfhbdnaaaBlockDec
import Derived.Test.YtecjnebfhbdnaaaBloomMake
import Derived.Test.YtecjnebfhbdnaaaMergeApp
namespace Go.Proofs.Ytecjnebfhbdnaaa
open Go.ChangeShapes Go.WideShapes Go.ChangeAt Go.RowKit
set_option linter.unusedVariables false
set_option maxRecDepth 100000
set_option maxHeartbeats 2000000

theorem tsplit_q (s : List UInt8) (n : Nat) (hs : s.length ≤ maxLen) (hn : n ≤ 18446744073709551615) (w : World) :
    Calls Try.prog 76 #[.string (bs s), .int .u64 (n : Nat)] w fun e w' => e = .returned (.tuple #[.string (bs (Tb.split s n).1), .string (bs (Tb.split s n).2)]) ∧ ∃ q, w' = w.drewN q := by
  have hz := fbs_size s
  unfold maxLen at hs
  have hz1 : (bs s).size ≤ 9223372036854775807 := by omega
  have hw : IntKind.u64.wrap ((bs s).size : Int) = ((bs s).size : Int) := by rw [IntKind.wrap_u64]; omega
  by_cases h : s.length < n
  · have d1 : decide (((bs s).size : Int) < (n : Int)) = true := decide_eq_true (by omega)
    have hp : Tb.split s n = ([], []) := by unfold Tb.split; rw [if_pos h]
    rw [hp]
    clear hz hp
    go_enter Try.func76, Try.ntmps76
    go_wp2_with fail
    go_ret2
    exact ⟨rfl, 0, rfl⟩
  · have d1 : decide (((bs s).size : Int) < (n : Int)) = false := decide_eq_false (by omega)
    have hp : Tb.split s n = (s.take n, s.drop n) := by unfold Tb.split; rw [if_neg h]
    rw [hp]
    have hz2 : n ≤ (bs s).size := by omega
    have HX := Lib.hid (show (bs s).extract 0 n = bs (s.take n) from extract_take s n)
    have HY := Lib.hid (show (bs s).extract n (bs s).size = bs (s.drop n) from extract_drop s n)
    clear hz hp
    go_enter Try.func76, Try.ntmps76
    go_wp2_with fail
    go_quiet (fail)
    go_wp2_with fail
    go_ret2
    exact ⟨by rw [← HX.out, ← HY.out]; rfl, _, rfl⟩
theorem tsplit_any (s : List UInt8) (n : Nat) (hs : s.length ≤ maxLen) (hn : n ≤ 18446744073709551615) (w : World) :
    Calls Try.prog 76 #[.string (bs s), .int .u64 (n : Nat)] w fun e w' => e = .returned (.tuple #[.string (bs (Tb.split s n).1), .string (bs (Tb.split s n).2)]) ∧ Kept w w' := by
  refine (tsplit_q s n hs hn w).mono ?_
  rintro e w' ⟨rfl, q, rfl⟩
  exact ⟨rfl, kept_drewN w q⟩
theorem tsplitE_any (s : List UInt8) (n : Nat) (hs : s.length ≤ maxLen) (hn : n ≤ 18446744073709551615) (w : World) :
    Calls Try.prog 67 #[.string (bs s), .int .u64 (n : Nat)] w fun e w' => e = .returned (.tuple #[.string (bs (Tb.splitE s n).1), .string (bs (Tb.splitE s n).2)]) ∧ Kept w w' := by
  have hs0 := hs
  have hz := fbs_size s
  unfold maxLen at hs
  have hz1 : (bs s).size ≤ 9223372036854775807 := by omega
  have hw : IntKind.u64.wrap ((bs s).size : Int) = ((bs s).size : Int) := by rw [IntKind.wrap_u64]; omega
  by_cases h : s.length < n
  · have d1 : decide (((bs s).size : Int) < (n : Int)) = true := decide_eq_true (by omega)
    have hp : Tb.splitE s n = ([], []) := by unfold Tb.splitE; rw [if_pos h]
    rw [hp]
    clear hz hp
    go_enter Try.func67, Try.ntmps67
    go_wp2_with fail
    go_ret2
    exact ⟨rfl, Kept.refl _⟩
  · have d1 : decide (((bs s).size : Int) < (n : Int)) = false := decide_eq_false (by omega)
    obtain ⟨M, hM⟩ : ∃ M, M = s.length - n := ⟨_, rfl⟩
    have hp : Tb.splitE s n = Tb.split s M := by unfold Tb.splitE Tb.split; rw [if_neg h, if_neg (by omega), hM]
    rw [hp]
    have hsub : IntKind.u64.wrap (((bs s).size : Int) - (n : Int)) = (M : Int) := by rw [IntKind.wrap_u64]; omega
    have HS := Lib.hid (tsplit_any s M hs0 (by omega))
    clear hz hp hM hs0
    go_enter Try.func67, Try.ntmps67
    go_wp2_with fail
    refine (HS.out _).mono ?_
    rintro e w1 ⟨rfl, g1⟩
    go_wp2_with fail
    go_ret2
    exact ⟨rfl, g1⟩
theorem ttakeLong_any (s : List UInt8) (hs : s.length ≤ maxLen) (w : World) :
    Calls Try.prog 68 #[.string (bs s)] w fun e w' => e = .returned (.tuple #[.int .u64 ((Tb.tkL s).1 : Nat), .string (bs (Tb.tkL s).2)]) ∧ Kept w w' := by
  have hl := (Tb.split_le s 8).1
  have HS := Lib.hid (tsplit_any s 8 hs (by omega))
  have hu := unlong_any (bs (Tb.split s 8).1) (by rw [fbs_size]; omega)
  rw [bs_data] at hu
  have HU := Lib.hid hu
  have e1 : Tb.tkL s = (Nm.unl (Tb.split s 8).1, (Tb.split s 8).2) := rfl
  rw [e1]
  generalize (Tb.split s 8).1 = X at *
  generalize (Tb.split s 8).2 = Y at *
  clear hl hu e1 hs
  go_enter Try.func68, Try.ntmps68
  go_wp2_with fail
  refine (HS.out _).mono ?_
  rintro e w1 ⟨rfl, g1⟩
  go_wp2_with fail
  refine (HU.out _).mono ?_
  rintro e w2 ⟨rfl, rfl⟩
  go_wp2_with fail
  go_ret2
  exact ⟨rfl, g1⟩
theorem ttakeText_any (s : List UInt8) (hs : s.length ≤ maxLen) (w : World) :
    Calls Try.prog 90 #[.string (bs s)] w fun e w' => e = .returned (.tuple #[.string (bs (Tb.tkT s).1), .string (bs (Tb.tkT s).2)]) ∧ Kept w w' := by
  have ht := take_any (bs s) (by rw [fbs_size]; exact hs)
  rw [bs_data] at ht
  have h1 := takeR_le s
  have h2 := takeN_lt s
  have HT := Lib.hid ht
  have HS := Lib.hid (tsplit_any (Nm.takeR s) (Nm.takeN s) (by omega) (by omega))
  have e1 : Tb.tkT s = Tb.split (Nm.takeR s) (Nm.takeN s) := rfl
  rw [e1]
  generalize Nm.takeR s = R at *
  generalize Nm.takeN s = M at *
  clear ht h1 h2 e1 hs
  go_enter Try.func90, Try.ntmps90
  go_wp2_with fail
  refine (HT.out _).mono ?_
  rintro e w1 ⟨rfl, g1⟩
  go_wp2_with fail
  refine (HS.out _).mono ?_
  rintro e w2 ⟨rfl, g2⟩
  go_wp2_with fail
  go_ret2
  exact ⟨rfl, kept_trans g1 g2⟩
/-- a place as cells -/
def pcs (p : Tb.Pl) : List Value := [.string (bs p.key), .int .u64 (p.seq : Nat), .int .u64 (p.beg : Nat), .int .u64 (p.size : Nat)]
def plc : List Tb.Pl → List Value
  | [] => []
  | p :: l => pcs p ++ plc l
theorem plc_len : ∀ (l : List Tb.Pl), (plc l).length = l.length * 4
  | [] => rfl
  | p :: l => by simp only [plc, List.length_append, plc_len l, pcs, List.length_cons, List.length_nil]; omega
theorem plc_app : ∀ (l m : List Tb.Pl), plc (l ++ m) = plc l ++ plc m
  | [], m => rfl
  | p :: l, m => by simp only [List.cons_append, plc, plc_app l m, List.append_assoc]
theorem plc_get : ∀ {l : List Tb.Pl} {j : Nat} {p : Tb.Pl}, l[j]? = some p → ∀ i u, (pcs p)[i]? = some u → (plc l)[j * 4 + i]? = some u
  | [], j, x, h, _, _, _ => by simp at h
  | y :: l, 0, x, h, i, u, hu => by
    simp at h; subst h
    have hi := (List.getElem?_eq_some_iff.1 hu).1
    rw [Nat.zero_mul, Nat.zero_add, plc, List.getElem?_append_left (by exact hi)]
    exact hu
  | y :: l, j + 1, x, h, i, u, hu => by
    have := plc_get (l := l) (j := j) (p := x) (by simpa using h) i u hu
    rw [plc, List.getElem?_append_right (by simp [pcs]; omega)]
    simp only [pcs, List.length_cons, List.length_nil]
    rw [show (j + 1) * 4 + i - (0 + 1 + 1 + 1 + 1) = j * 4 + i by omega]
    exact this
/-- a list of places in memory -/
def Pls (w : World) (A : Option Addr) (l : List Tb.Pl) : Prop := ∀ (j : Nat) (p : Tb.Pl), l[j]? = some p → ∃ b o, A = some ⟨b, o, none⟩ ∧ b < w.heap.size ∧ w.cell? ⟨b, o + j * 4, none⟩ = some (.string (bs p.key)) ∧ w.cell? ⟨b, o + j * 4 + 1, none⟩ = some (.int .u64 (p.seq : Nat)) ∧ w.cell? ⟨b, o + j * 4 + 2, none⟩ = some (.int .u64 (p.beg : Nat)) ∧ w.cell? ⟨b, o + j * 4 + 3, none⟩ = some (.int .u64 (p.size : Nat))
theorem Pls.kept {w w' : World} {A : Option Addr} {l : List Tb.Pl} (h : Pls w A l) (k : Kept w w') : Pls w' A l := fun j x hx => by
  obtain ⟨b, o, e, hb, h0, h1, h2, h3⟩ := h j x hx
  exact ⟨b, o, e, Nat.lt_of_lt_of_le hb (Below.size k), by rw [kept_cell k hb]; exact h0, by rw [kept_cell k hb]; exact h1, by rw [kept_cell k hb]; exact h2, by rw [kept_cell k hb]; exact h3⟩
theorem pls_lit {w : World} {b : Nat} {l : List Tb.Pl} {cs : Array Value} {t : TypeId} {fr : Nat × Nat} (h : w.heap[b]? = some (.cells cs t fr)) (hc : cs = (plc l).toArray) : Pls w (some ⟨b, 0, none⟩) l := fun j x hx => by
  have hg := plc_get hx
  have hcell : ∀ i u, (plc l)[i]? = some u → w.cell? ⟨b, i, none⟩ = some u := fun i u hu => mcell h i (by rw [hc]; simpa using hu)
  refine ⟨b, 0, rfl, mheap_lt h, ?_, ?_, ?_, ?_⟩
  · rw [Nat.zero_add]; exact hcell _ _ (hg 0 _ rfl)
  · rw [Nat.zero_add]; exact hcell _ _ (hg 1 _ rfl)
  · rw [Nat.zero_add]; exact hcell _ _ (hg 2 _ rfl)
  · rw [Nat.zero_add]; exact hcell _ _ (hg 3 _ rfl)
theorem pls_own {w : World} {base n : Nat} {v : Value} {l : List Tb.Pl} (h : w.ownsRow base 61 4 v n (plc l)) : ∃ A c, v = .slice A l.length c ∧ n = l.length ∧ Pls w A l := by
  have hl : l.length = n := by have := h.1; rw [plc_len] at this; omega
  rcases h.2 with ⟨e, e0⟩ | ⟨r, cap, cur, e, hbs, hb, hnc, _, _, htk⟩
  · have : l = [] := List.eq_nil_of_length_eq_zero (by omega)
    subst this
    exact ⟨none, 0, e, by omega, fun j x hx => by simp at hx⟩
  · refine ⟨some ⟨r, 0, none⟩, cap, by rw [hl]; exact e, hl.symm, fun j x hx => ?_⟩
    have hj := (List.getElem?_eq_some_iff.1 hx).1
    have hcell : ∀ i u, i < n * 4 → (plc l)[i]? = some u → w.cell? ⟨r, i, none⟩ = some u := fun i u hi hu => by
      rw [← htk, List.getElem?_take, if_pos hi] at hu
      exact mcell hb i (by simpa using hu)
    have hg := plc_get hx
    refine ⟨r, 0, rfl, (Array.getElem?_eq_some_iff.1 hb).1, ?_, ?_, ?_, ?_⟩
    · rw [Nat.zero_add]; exact hcell _ _ (by omega) (hg 0 _ rfl)
    · rw [Nat.zero_add]; exact hcell _ _ (by omega) (hg 1 _ rfl)
    · rw [Nat.zero_add]; exact hcell _ _ (by omega) (hg 2 _ rfl)
    · rw [Nat.zero_add]; exact hcell _ _ (by omega) (hg 3 _ rfl)
def zplV : Value := .agg #[.string ⟨#[]⟩, .int .u64 0, .int .u64 0, .int .u64 0]
def zpl : Tb.Pl := ⟨[], 0, 0, 0⟩
theorem placeInfo : (Try.prog.info? 61).map (fun i => (i.zero, i.size, i.bytes)) = some (some zplV, 4, 40) := by kernel_rfl
theorem plc_rep : ∀ n, plc (List.replicate n zpl) = (List.replicate n (pcs zpl)).flatten
  | 0 => rfl
  | n + 1 => by rw [List.replicate_succ, List.replicate_succ, plc, plc_rep n]; rfl
theorem made_cells (n : Nat) : madeCells zplV.cells (n * 4) = (plc (List.replicate n zpl)).toArray := by
  apply Array.ext
  · rw [size_madeCells, List.size_toArray, plc_len, List.length_replicate]
  · intro i h1 h2
    rw [size_madeCells] at h1
    have hr : (List.replicate n zpl)[i / 4]? = some zpl := by rw [List.getElem?_replicate, if_pos (by omega)]
    have hm : i % 4 = 0 ∨ i % 4 = 1 ∨ i % 4 = 2 ∨ i % 4 = 3 := by omega
    have hl : (madeCells zplV.cells (n * 4))[i]'(by rw [size_madeCells]; exact h1) = zplV.cells[i % 4]! := by
      simp only [madeCells, Array.getElem_map, Array.getElem_range]; rfl
    rw [hl]
    apply Option.some.inj
    rw [← Array.getElem?_eq_getElem h2, List.getElem?_toArray]
    rcases hm with hm | hm | hm | hm <;> rw [hm]
    · have g := plc_get hr 0 _ rfl
      rw [show i / 4 * 4 + 0 = i by omega] at g; rw [g]; rfl
    · have g := plc_get hr 1 _ rfl
      rw [show i / 4 * 4 + 1 = i by omega] at g; rw [g]; rfl
    · have g := plc_get hr 2 _ rfl
      rw [show i / 4 * 4 + 2 = i by omega] at g; rw [g]; rfl
    · have g := plc_get hr 3 _ rfl
      rw [show i / 4 * 4 + 3 = i by omega] at g; rw [g]; rfl
theorem made_pl (k : IntKind) (n : Nat) (hn : n ≤ 63) (w : World) :
    (Instr.makeSlice 56 (.int k (n : Int)) (.int k (n : Int))).run Try.prog w = .ok (.slice (some ⟨w.heap.size, 0, none⟩) n n) (w.alloc (.cells (plc (List.replicate n zpl)).toArray 61)) := by
  obtain ⟨i0, hi0, hz0, hz1, hz2⟩ := info_parts placeInfo
  have hr := run_make (P := Try.prog) w 56 61 i0 zplV Try.underlying56 hi0 hz0 k k n n (by omega) (by omega) (by rw [hz2]; omega) (by omega)
  rw [hr, hz1]
  simp only [Int.toNat_natCast]
  congr 3
  exact made_cells n
end Go.Proofs.Ytecjnebfhbdnaaa
