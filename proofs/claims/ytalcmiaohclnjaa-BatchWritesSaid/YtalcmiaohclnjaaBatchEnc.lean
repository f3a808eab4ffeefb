/-
  Encode of package batch tells a batch's bytes, or what is wrong.
-/
import Derived.Test.YtalcmiaohclnjaaBatchFns
import Derived.Test.YtalcmiaohclnjaaNumRefTake
import Derived.Deep.RegionHeld3
namespace Go.Proofs.Ytalcmiaohclnjaa
open Go.ChangeShapes Go.WideShapes Go.ChangeAt Go.RowKit
set_option linter.unusedVariables false
set_option maxHeartbeats 1000000

theorem bkc1 {W W1 : World} (a : Addr) (v : Value) (k : Kept W W1) (h : W.cell? a = some v) : W1.cell? a = some v := by
  rw [kept_cell k (World.block_lt_of_cell? W _ h)]; exact h
theorem bld_more {B b : Nat} {l : List UInt8} {w w' : World} (h : Bld B b l w) (o : Obj) (k : Kept (w.alloc o) w') : Bld B b l w' := h.kept (kept_trans ((Kept.refl _).alloc _) k)
/-- what has been written where k operations have been gone through -/
def encK (n : Nat) (l : List Bt.Op) (k : Nat) : List UInt8 := Nm.short n ++ (Nm.short l.length ++ Bt.encL (l.take k))
theorem encK_step {n : Nat} {l : List Bt.Op} {k : Nat} {x : Bt.Op} (hx : l[k]? = some x) : encK n l (k + 1) = encK n l k ++ Bt.enc1 x := by
  unfold encK; rw [ballsnoc hx, Bt.encL_snoc]; simp
theorem encK_len {n : Nat} {l : List Bt.Op} (h : Bt.ok n l = true) (k : Nat) : (encK n l k).length ≤ 3268 := by
  have h1 := Bt.enc_len h
  have e : Bt.encL l = Bt.encL (l.take k) ++ Bt.encL (l.drop k) := by rw [← Bt.encL_app, List.take_append_drop]
  unfold Bt.enc at h1
  rw [e] at h1
  unfold encK
  simp only [List.length_append] at h1 ⊢
  omega
/-- what stays while an operation's bytes are put together: what has been written, and the operation's own box -/
structure EncI (w1 : World) (E : List UInt8) (bx : Nat) (ky vl : List UInt8) (W : World) : Prop where
  bl : Bld w1.heap.size w1.heap.size E W
  be : Below w1.heap.size w1 W
  bk : W.heap[bx]? = some (.cells #[.bool false, .string (bs ky), .string (bs vl)] 34 (0, 0))
  ne : bx ≠ w1.heap.size
  sz : w1.heap.size ≤ W.heap.size
theorem EncI.cc {w1 : World} {E : List UInt8} {bx : Nat} {ky vl : List UInt8} {W : World} (h : EncI w1 E bx ky vl W) : W.cell? ⟨bx, 1, none⟩ = some (.string (bs ky)) ∧ W.cell? ⟨bx, 2, none⟩ = some (.string (bs vl)) :=
  ⟨blk_cell h.bk 1, blk_cell h.bk 2⟩
theorem EncI.kept {w1 : World} {E : List UInt8} {bx : Nat} {ky vl : List UInt8} {W W' : World} (h : EncI w1 E bx ky vl W) (k : Kept W W') : EncI w1 E bx ky vl W' :=
  ⟨h.bl.kept k, Below.trans h.be (Below.mono k h.sz), (Below.block k bx (Array.getElem?_eq_some_iff.1 h.bk).1).trans h.bk, h.ne, Nat.le_trans h.sz (Below.size k)⟩
theorem sized_inv {w1 : World} {E : List UInt8} {bx : Nat} {ky vl t : List UInt8} (h : ∀ W, Calls Try.prog 25 #[.string (bs t)] W fun e w' => e = .returned (.string (bs (Bt.sized t))) ∧ Kept W w') (W : World) (hi : EncI w1 E bx ky vl W) :
    Calls Try.prog 25 #[.string (bs t)] W fun e w' => e = .returned (.string (bs (Bt.sized t))) ∧ EncI w1 E bx ky vl w' :=
  (h W).mono fun e w' ⟨h1, h2⟩ => ⟨h1, hi.kept h2⟩
theorem write_inv {w1 : World} {E : List UInt8} {bx : Nat} {ky vl : List UInt8} (s : ByteArray) (hlen : E.length + s.size ≤ 16777216) (W : World) (hi : EncI w1 E bx ky vl W) :
    Calls Try.prog 23 #[.pointer (some ⟨w1.heap.size, 0, none⟩), .string s] W fun e w' => e = .returned (.tuple #[.int .i64 s.size, .nilIface]) ∧ EncI w1 (E ++ s.data.toList) bx ky vl w' :=
  (bld_write2 w1.heap.size w1.heap.size E s W hi.bl hlen hi.sz).mono fun e w' ⟨h1, h2, h3, h4⟩ => ⟨h1, h2, Below.trans hi.be h3, h4 bx _ _ _ hi.ne (by decide) hi.bk, hi.ne, Nat.le_trans hi.sz (Below.size h3)⟩
theorem encode_ok (n : Int) (A : Option Addr) (c : Nat) (l : List Bt.Op) (h1 : 0 ≤ n) (h2 : n ≤ 18446744073709551615) (hok : Bt.ok n.toNat l = true) (w : World) (hA : Ops w A l) :
    Calls Try.prog 12 #[.int .u64 n, .slice A l.length c] w fun e w' => e = .returned (.tuple #[.string (bs (Bt.enc n.toNat l)), .int .i64 0]) ∧ Kept w w' := by
  obtain ⟨hm, hn⟩ := Bt.ok_iff.1 hok
  obtain ⟨_, h16, hall⟩ := Bt.may_iff.1 hm
  have hsane : Sane l := fun x hx => by
    obtain ⟨_, q1, q2, _⟩ := Bt.may1_iff.1 (hall x hx)
    unfold maxLen; omega
  have hcm := may_any A c l (by unfold maxLen; omega) hsane w hA
  rw [hm] at hcm
  have hcn := numbered_any n l.length h1 h2 h16
  rw [hn] at hcn
  have hs1 := short_any n h1 h2
  have hs2 := short_any (l.length : Int) (by omega) (by omega)
  rw [Int.toNat_natCast] at hs2
  have hlen := encK_len hok
  have hz0 : (bs (Nm.short n.toNat)).size ≤ 10 := by rw [fbs_size, Nm.short_len _ (by omega)]; exact (Nm.sz_le _ (by omega)).2
  have hz1 : (bs (Nm.short l.length)).size = 1 := by rw [fbs_size, Nm.short_len _ (by omega), Nm.sz_small _ (by omega)]
  have hk0 : Nm.short n.toNat ++ Nm.short l.length = encK n.toNat l 0 := by simp [encK, Bt.encL]
  have HALL := Lib.hid hall; have HLEN := Lib.hid hlen; have HK0 := Lib.hid hk0; have HCM := Lib.hid hcm
  have HSTEP := Lib.hid (fun k x (hx : l[k]? = some x) => encK_step (n := n.toNat) hx)
  clear hok hm hn hall hsane hlen hk0 hcm
  generalize n.toNat = N at *
  go_enter Try.func12, Try.ntmps12
  go_wp2_with fail
  refine HCM.out.mono ?_
  rintro e w1 ⟨rfl, g1⟩
  go_wp2_with fail
  refine (hcn _).mono ?_
  rintro e w2 ⟨rfl, rfl⟩
  go_wp2_with fail
  refine (hs1 _).mono ?_
  rintro e w2 ⟨rfl, g2⟩
  have hs_w1 := Below.size g1
  have hB0 := (bld_new w1).kept g2
  have hb2 : w1.heap.size ≤ w2.heap.size := by have := Below.size g2; simp at this; omega
  go_wp2_with fail
  refine (bld_write w1.heap.size w1.heap.size [] (bs (Nm.short N)) _ hB0 (by simp; omega) hb2).mono ?_
  rintro e w3 ⟨rfl, hB3, g3⟩
  rw [bs_data, List.nil_append] at hB3
  go_wp2_with fail
  refine (hs2 _).mono ?_
  rintro e w4 ⟨rfl, g4⟩
  have hB4 := hB3.kept g4
  have hb3 : w1.heap.size ≤ w3.heap.size := by have := Below.size g3; omega
  have hb4 : w1.heap.size ≤ w4.heap.size := by have := Below.size g4; have := Below.size g3; omega
  go_wp2_with fail
  refine (bld_write w1.heap.size w1.heap.size (Nm.short N) (bs (Nm.short l.length)) _ hB4 (by rw [← fbs_size]; omega) hb4).mono ?_
  rintro e w5 ⟨rfl, hB5, g5⟩
  rw [bs_data, HK0.out] at hB5
  have gg : Below w1.heap.size w1 w5 := Below.trans (Below.trans (Below.trans ((Kept.refl w1).alloc _) (Below.mono g2 (by simp))) g3) (Below.trans (Below.mono g4 (by omega)) g5)
  clear g2 g3 g4 g5 hB0 hB3 hB4
  have hA1 := (hA.kept g1).kept gg
  have g15 : Kept w w5 := kept_trans g1 gg
  go_wp2_with fail
  go_loopw [27] (fun t wr => ∃ k : Nat, k ≤ l.length ∧ t = .int .i64 k ∧ Bld w1.heap.size w1.heap.size (encK N l k) wr ∧ Below w1.heap.size w1 wr) (fun t _ => l.length - (intOf t).toNat)
  case atStart => exact ⟨0, Nat.zero_le _, rfl, hB5, gg⟩
  case round =>
    obtain ⟨k, hk, rfl, hB, hkr⟩ := hrel
    have hbase : w1.heap.size ≤ wr.heap.size := Below.size hkr
    have hbx : w1.heap.size < wr.heap.size := (fun ⟨_, _, _, _, hb, _⟩ => (Array.getElem?_eq_some_iff.1 hb).1) hB
    by_cases hlt : k < l.length
    · obtain ⟨x, hx⟩ : ∃ x, l[k]? = some x := ⟨_, List.getElem?_eq_getElem hlt⟩
      have hmem : x ∈ l := List.mem_of_getElem? hx
      obtain ⟨b, o, rfl, hb, c0, c1, c2⟩ := ((hA.kept g1).kept hkr) k x hx
      obtain ⟨m1, m2, m3, m4⟩ := Bt.may1_iff.1 (HALL.out x hmem)
      have hst := HSTEP.out k x hx
      have hl1 := HLEN.out k
      obtain ⟨d, ky, vl⟩ := x
      simp only at c0 c1 c2 m1 m2 m3 m4
      have hsk := sized_any ky m2
      have hsv := sized_any vl m3
      have zk : (bs (Bt.sized ky)).size ≤ 101 := by rw [fbs_size]; exact (Bt.sized_len m2).2
      have zv : (bs (Bt.sized vl)).size ≤ 101 := by rw [fbs_size]; exact (Bt.sized_len m3).2
      have HST := Lib.hid hst
      clear hst hx hmem m4 hA1
      generalize encK N l k = E at *
      cases d with
      | true =>
        have z3 : ((⟨#[1]⟩ : ByteArray) ++ bs (Bt.sized ky)).size ≤ 102 := by rw [ByteArray.size_append]; have : (⟨#[1]⟩ : ByteArray).size = 1 := rfl; omega
        have he : ((⟨#[1]⟩ : ByteArray) ++ bs (Bt.sized ky)).data.toList = Bt.enc1 ⟨true, ky, vl⟩ := by simp [Bt.enc1, bs, ByteArray.data_append]
        have HE := Lib.hid he; clear he
        go_wp2_with fail
        refine (hsk _).mono ?_
        rintro e w6 ⟨rfl, g6⟩
        have hB6 := bld_more hB _ g6
        have hb6 : w1.heap.size ≤ w6.heap.size := by have := Below.size g6; simp at this; omega
        go_wp2_with fail
        refine (bld_write w1.heap.size w1.heap.size E _ _ hB6 (by omega) hb6).mono ?_
        rintro e w7 ⟨rfl, hB7, g7⟩
        rw [HE.out] at hB7
        go_wp2_with fail
        go_roundw
        case rel => exact ⟨k + 1, by omega, by go_num, by rw [HST.out]; exact hB7, Below.trans (Below.trans hkr (Below.mono (kept_trans ((Kept.refl wr).alloc _) g6) hbase)) g7⟩
        case measure => simp [intOf]; omega
      | false =>
        have z3 : ((⟨#[0]⟩ : ByteArray) ++ bs (Bt.sized ky)).size ≤ 102 := by rw [ByteArray.size_append]; have : (⟨#[0]⟩ : ByteArray).size = 1 := rfl; omega
        have z4 : ((⟨#[0]⟩ : ByteArray) ++ bs (Bt.sized ky) ++ bs (Bt.sized vl)).size ≤ 203 := by rw [ByteArray.size_append]; omega
        have he : ((⟨#[0]⟩ : ByteArray) ++ bs (Bt.sized ky) ++ bs (Bt.sized vl)).data.toList = Bt.enc1 ⟨false, ky, vl⟩ := by simp [Bt.enc1, bs, ByteArray.data_append]
        have HE := Lib.hid he; clear he
        have i0 : EncI w1 E wr.heap.size ky vl (wr.alloc (.cells #[.bool false, .string (bs ky), .string (bs vl)] 34)).drew :=
          ⟨hB.kept ((kept_of_drew (Kept.refl wr.drew)).alloc _), Below.trans hkr (Below.mono ((kept_of_drew (Kept.refl wr.drew)).alloc _) hbase), (by show (wr.heap.push _)[wr.heap.size]? = _; exact Array.getElem?_push_size), by omega, by simp; omega⟩
        have hsk' := sized_inv (w1 := w1) (E := E) (bx := wr.heap.size) (ky := ky) (vl := vl) hsk
        have hsv' := sized_inv (w1 := w1) (E := E) (bx := wr.heap.size) (ky := ky) (vl := vl) hsv
        have hwr := write_inv (w1 := w1) (E := E) (bx := wr.heap.size) (ky := ky) (vl := vl) (⟨#[0]⟩ ++ bs (Bt.sized ky) ++ bs (Bt.sized vl)) (by omega)
        have HWR := Lib.hid hwr
        have hr1 : ∀ W, (Op.stringOp .add ⟨#[0]⟩ (bs (Bt.sized ky))).run Try.prog W = .ok (.string (⟨#[0]⟩ ++ bs (Bt.sized ky))) W := fun W => run_string_add_sum W _ _ (by have : (⟨#[0]⟩ : ByteArray).size = 1 := rfl; omega)
        have hr2 : ∀ W, (Op.stringOp .add (⟨#[0]⟩ ++ bs (Bt.sized ky)) (bs (Bt.sized vl))).run Try.prog W = .ok (.string (⟨#[0]⟩ ++ bs (Bt.sized ky) ++ bs (Bt.sized vl))) W := fun W => run_string_add_sum W _ _ (by omega)
        have HSK := Lib.hid hsk'; have HSV := Lib.hid hsv'; have I0 := Lib.hid i0
        clear hsk hsv hsk' hsv' i0 hwr
        go_wp2_with fail
        go_region_held3 (fun w' => w'.cell? ⟨wr.heap.size, 1, none⟩ = some (.string (bs ky)) ∧ w'.cell? ⟨wr.heap.size, 2, none⟩ = some (.string (bs vl))) (first | exact EncI.cc (by assumption) | exact EncI.cc I0.out)
          (first
          | (go_at_call_of 25 (Value.string (bs ky)); refine (HSK.out _ (by first | assumption | exact I0.out)).mono ?_; rintro e w6 ⟨rfl, i6⟩)
          | (go_at_call_of 25 (Value.string (bs vl)); refine (HSV.out _ (by first | assumption | exact I0.out)).mono ?_; rintro e w6 ⟨rfl, i6⟩)
          | (go_at_call 23; refine (HWR.out _ (by assumption)).mono ?_; rintro e w7 ⟨rfl, i7⟩))
        all_goals
          have hB7 := i7.bl
          have hb7 := i7.be
          rw [HE.out] at hB7
          clear i7 HSK HSV HWR I0 hr1 hr2
          go_wp2_with fail
          go_roundw
          case rel => exact ⟨k + 1, by omega, by go_num, by rw [HST.out]; exact hB7, hb7⟩
          case measure => simp [intOf]; omega
    · have e : k = l.length := by omega
      subst e
      have he : encK N l l.length = Bt.enc N l := by unfold encK Bt.enc; rw [List.take_length]
      rw [he] at hB
      clear he
      go_wp2_with fail
      refine (bld_string w1.heap.size w1.heap.size _ _ hB hbase).mono ?_
      rintro e w6 ⟨rfl, g6⟩
      go_wp2_with fail
      go_ret2
      exact ⟨rfl, kept_trans g1 (Below.trans hkr g6)⟩
theorem encode_form (n : Int) (A : Option Addr) (c : Nat) (l : List Bt.Op) (hl : l.length ≤ maxLen) (hs : Sane l) (hm : Bt.may l = false) (w : World) (hA : Ops w A l) :
    Calls Try.prog 12 #[.int .u64 n, .slice A l.length c] w fun e w' => e = .returned (.tuple #[.string (bs []), .int .i64 2]) ∧ Kept w w' := by
  have hcm := may_any A c l hl hs w hA
  rw [hm] at hcm
  unfold maxLen at hl
  clear hm
  go_enter Try.func12, Try.ntmps12
  go_wp2_with fail
  refine hcm.mono ?_
  rintro e w1 ⟨rfl, g1⟩
  go_wp2_with fail
  go_ret2
  exact ⟨rfl, g1⟩
theorem encode_range (n : Int) (A : Option Addr) (c : Nat) (l : List Bt.Op) (h1 : 0 ≤ n) (h2 : n ≤ 18446744073709551615) (hs : Sane l) (hm : Bt.may l = true) (hn : Bt.nums n.toNat l.length = false) (w : World) (hA : Ops w A l) :
    Calls Try.prog 12 #[.int .u64 n, .slice A l.length c] w fun e w' => e = .returned (.tuple #[.string (bs []), .int .i64 3]) ∧ Kept w w' := by
  obtain ⟨_, h16, _⟩ := Bt.may_iff.1 hm
  have hcm := may_any A c l (by unfold maxLen; omega) hs w hA
  rw [hm] at hcm
  have hcn := numbered_any n l.length h1 h2 h16
  rw [hn] at hcn
  clear hm hn
  go_enter Try.func12, Try.ntmps12
  go_wp2_with fail
  refine hcm.mono ?_
  rintro e w1 ⟨rfl, g1⟩
  go_wp2_with fail
  refine (hcn _).mono ?_
  rintro e w2 ⟨rfl, rfl⟩
  go_wp2_with fail
  go_ret2
  exact ⟨rfl, g1⟩
theorem encode_any (n : Int) (A : Option Addr) (c : Nat) (l : List Bt.Op) (h1 : 0 ≤ n) (h2 : n ≤ 18446744073709551615) (hl : l.length ≤ maxLen) (hs : Sane l) (w : World) (hA : Ops w A l) :
    Calls Try.prog 12 #[.int .u64 n, .slice A l.length c] w fun e w' => e = .returned (.tuple #[.string (bs (Bt.encS n.toNat l)), .int .i64 (Bt.encE n.toNat l)]) ∧ Kept w w' := by
  cases hm : Bt.may l with
  | false =>
    have e1 : Bt.encS n.toNat l = [] := by unfold Bt.encS Bt.ok; rw [hm]; rfl
    have e2 : Bt.encE n.toNat l = 2 := by unfold Bt.encE; rw [hm]; rfl
    rw [e1, e2]
    exact encode_form n A c l hl hs hm w hA
  | true =>
    cases hn : Bt.nums n.toNat l.length with
    | false =>
      have e1 : Bt.encS n.toNat l = [] := by unfold Bt.encS Bt.ok; rw [hm, hn]; rfl
      have e2 : Bt.encE n.toNat l = 3 := by unfold Bt.encE; rw [hm, hn]; rfl
      rw [e1, e2]
      exact encode_range n A c l h1 h2 hs hm hn w hA
    | true =>
      have ho := Bt.ok_iff.2 ⟨hm, hn⟩
      rw [(Bt.enc_yes ho).1, (Bt.enc_yes ho).2]
      exact encode_ok n A c l h1 h2 ho w hA
end Go.Proofs.Ytalcmiaohclnjaa
