/-
  An entry's bytes, and Encode of package block.
-/
import Derived.Test.YtecjnebfhbdnaaaBlockFns
import Derived.Test.YtecjnebfhbdnaaaBlockBuilder
import Derived.Deep.RegionHeld3
namespace Go.Proofs.Ytecjnebfhbdnaaa
open Go.ChangeShapes Go.WideShapes Go.ChangeAt Go.RowKit
set_option linter.unusedVariables false
set_option maxRecDepth 100000
set_option maxHeartbeats 2000000

/-- an entry's own box, behind what leaves it as it was -/
structure KBox (w0 : World) (bx : Nat) (x : Mm.Ent) (W : World) : Prop where
  kp : Kept w0 W
  bk : W.heap[bx]? = some (.cells #[.string (bs x.key), .int .u64 (x.seq : Nat), .bool x.del, .string (bs x.val)] 37 (0, 0))
theorem KBox.cc {w0 : World} {bx : Nat} {x : Mm.Ent} {W : World} (h : KBox w0 bx x W) : W.cell? ⟨bx, 0, none⟩ = some (.string (bs x.key)) ∧ W.cell? ⟨bx, 1, none⟩ = some (.int .u64 (x.seq : Nat)) ∧ W.cell? ⟨bx, 3, none⟩ = some (.string (bs x.val)) :=
  ⟨blk_cell h.bk 0, blk_cell h.bk 1, blk_cell h.bk 3⟩
theorem KBox.kept {w0 : World} {bx : Nat} {x : Mm.Ent} {W W' : World} (h : KBox w0 bx x W) (k : Kept W W') : KBox w0 bx x W' :=
  ⟨kept_trans h.kp k, (Below.block k bx (Array.getElem?_eq_some_iff.1 h.bk).1).trans h.bk⟩
theorem kbox_inv {w0 : World} {bx : Nat} {x : Mm.Ent} {f : FuncId} {a : Array Value} {v : Value} (h : ∀ W, Calls Try.prog f a W fun e w' => e = .returned v ∧ Kept W w') (W : World) (hi : KBox w0 bx x W) :
    Calls Try.prog f a W fun e w' => e = .returned v ∧ KBox w0 bx x w' :=
  (h W).mono fun e w' ⟨h1, h2⟩ => ⟨h1, hi.kept h2⟩
theorem kentb_any (x : Mm.Ent) (n : Nat) (hx : Mm.may x = true) (hn : n ≤ x.key.length) (w : World) :
    Calls Try.prog 58 #[entV x, .int .i64 n] w fun e w' => e = .returned (.string (bs (Bk.encE n x))) ∧ Kept w w' := by
  obtain ⟨k1, k2, k3, k4, k5, k6⟩ := Mm.may_iff.1 hx
  obtain ⟨ky, sq, d, vl⟩ := x
  simp only at k1 k2 k3 k4 k5 k6 hn
  have hs1 := short_any (n : Int) (by omega) (by omega)
  have hs2 := short_any (sq : Int) (by omega) (by omega)
  rw [Int.toNat_natCast] at hs1 hs2
  have hk := ksized_any (ky.drop n) (by rw [List.length_drop]; omega)
  have hv := ksized_any vl k3
  have z1 : (bs (Nm.short n)).size = 1 := by rw [fbs_size, Nm.short_len _ (by omega), Nm.sz_small _ (by omega)]
  have z2 : (bs (Nm.short sq)).size ≤ 10 := by rw [fbs_size, Nm.short_len _ (by omega)]; exact (Nm.sz_le _ (by omega)).2
  have z3 : (bs (Bt.sized (ky.drop n))).size ≤ 101 := by rw [fbs_size]; exact (Bt.sized_len (by rw [List.length_drop]; omega)).2
  have z4 : (bs (Bt.sized vl)).size ≤ 101 := by rw [fbs_size]; exact (Bt.sized_len k3).2
  have zk := fbs_size ky
  have zk2 : n ≤ (bs ky).size := by omega
  have hx : (bs ky).extract n (bs ky).size = bs (ky.drop n) := extract_drop ky n
  have i0 : KBox w w.heap.size ⟨ky, sq, d, vl⟩ (w.alloc (.cells #[.string (bs ky), .int .u64 (sq : Nat), .bool d, .string (bs vl)] 37)).drew :=
    ⟨kept_trans ((Kept.refl _).alloc _) (kept_drewN _ 1), by show (w.heap.push _)[w.heap.size]? = _; exact Array.getElem?_push_size⟩
  have HS1 := Lib.hid (kbox_inv (w0 := w) (bx := w.heap.size) (x := ⟨ky, sq, d, vl⟩) hs1)
  have HS2 := Lib.hid (kbox_inv (w0 := w) (bx := w.heap.size) (x := ⟨ky, sq, d, vl⟩) hs2)
  have HK := Lib.hid (kbox_inv (w0 := w) (bx := w.heap.size) (x := ⟨ky, sq, d, vl⟩) hk)
  have HV := Lib.hid (kbox_inv (w0 := w) (bx := w.heap.size) (x := ⟨ky, sq, d, vl⟩) hv)
  have I0 := Lib.hid i0
  have hw : IntKind.u64.wrap (n : Int) = (n : Int) := by rw [IntKind.wrap_u64]; omega
  clear hs1 hs2 hk hv i0 zk k4
  unfold entV
  cases d with
  | false =>
    have m1 : (⟨#[0]⟩ : ByteArray).size = 1 := rfl
    have a1 : (bs (Nm.short n) ++ bs (Bt.sized (ky.drop n))).size ≤ 102 := by rw [ByteArray.size_append]; omega
    have a2 : (bs (Nm.short n) ++ bs (Bt.sized (ky.drop n)) ++ bs (Nm.short sq)).size ≤ 112 := by rw [ByteArray.size_append]; omega
    have a3 : (bs (Nm.short n) ++ bs (Bt.sized (ky.drop n)) ++ bs (Nm.short sq) ++ (⟨#[0]⟩ : ByteArray)).size ≤ 113 := by rw [ByteArray.size_append]; omega
    have r1 : ∀ W, (Op.stringOp .add (bs (Nm.short n)) (bs (Bt.sized (ky.drop n)))).run Try.prog W = .ok (.string (bs (Nm.short n) ++ bs (Bt.sized (ky.drop n)))) W := fun W => run_string_add_sum W _ _ (by omega)
    have r2 : ∀ W, (Op.stringOp .add (bs (Nm.short n) ++ bs (Bt.sized (ky.drop n))) (bs (Nm.short sq))).run Try.prog W = .ok (.string (bs (Nm.short n) ++ bs (Bt.sized (ky.drop n)) ++ bs (Nm.short sq))) W := fun W => run_string_add_sum W _ _ (by omega)
    have r3 : ∀ W, (Op.stringOp .add (bs (Nm.short n) ++ bs (Bt.sized (ky.drop n)) ++ bs (Nm.short sq)) (⟨#[0]⟩ : ByteArray)).run Try.prog W = .ok (.string (bs (Nm.short n) ++ bs (Bt.sized (ky.drop n)) ++ bs (Nm.short sq) ++ (⟨#[0]⟩ : ByteArray))) W := fun W => run_string_add_sum W _ _ (by omega)
    have r4 : ∀ W, (Op.stringOp .add (bs (Nm.short n) ++ bs (Bt.sized (ky.drop n)) ++ bs (Nm.short sq) ++ (⟨#[0]⟩ : ByteArray)) (bs (Bt.sized vl))).run Try.prog W = .ok (.string (bs (Nm.short n) ++ bs (Bt.sized (ky.drop n)) ++ bs (Nm.short sq) ++ (⟨#[0]⟩ : ByteArray) ++ bs (Bt.sized vl))) W := fun W => run_string_add_sum W _ _ (by omega)
    have HE := Lib.hid (show bs (Nm.short n) ++ bs (Bt.sized (ky.drop n)) ++ bs (Nm.short sq) ++ (⟨#[0]⟩ : ByteArray) ++ bs (Bt.sized vl) = bs (Bk.encE n ⟨ky, sq, false, vl⟩) from bs_of (by simp [Bk.encE, Bk.mk, bs, ByteArray.data_append]))
    clear a1 a2 a3 m1
    go_enter Try.func58, Try.ntmps58
    go_wp2_with fail
    go_region_held3 (fun w' => w'.cell? ⟨w.heap.size, 0, none⟩ = some (.string (bs ky)) ∧ w'.cell? ⟨w.heap.size, 1, none⟩ = some (.int .u64 (sq : Nat)) ∧ w'.cell? ⟨w.heap.size, 3, none⟩ = some (.string (bs vl))) (first | exact KBox.cc (by assumption) | exact KBox.cc I0.out)
      (first
      | (go_at_call_of 61 (Value.int .u64 (n : Int)); refine (HS1.out _ (by first | assumption | exact I0.out)).mono ?_; rintro e w6 ⟨rfl, i6⟩)
      | (go_at_call_of 61 (Value.int .u64 (sq : Int)); refine (HS2.out _ (by first | assumption | exact I0.out)).mono ?_; rintro e w6 ⟨rfl, i6⟩)
      | (go_at_call_of 82 (Value.string (bs (ky.drop n))); refine (HK.out _ (by first | assumption | exact I0.out)).mono ?_; rintro e w6 ⟨rfl, i6⟩)
      | (go_at_call_of 82 (Value.string (bs vl)); refine (HV.out _ (by first | assumption | exact I0.out)).mono ?_; rintro e w6 ⟨rfl, i6⟩))
    all_goals
      have hk6 := i6.kp
      clear i6 HS1 HS2 HK HV I0 r1 r2 r3 r4
      go_wp2_with fail
      go_ret
      exact ⟨by rw [HE.out]; rfl, hk6⟩
  | true =>
    have m1 : (⟨#[1]⟩ : ByteArray).size = 1 := rfl
    have a1 : (bs (Nm.short n) ++ bs (Bt.sized (ky.drop n))).size ≤ 102 := by rw [ByteArray.size_append]; omega
    have a2 : (bs (Nm.short n) ++ bs (Bt.sized (ky.drop n)) ++ bs (Nm.short sq)).size ≤ 112 := by rw [ByteArray.size_append]; omega
    have a3 : (bs (Nm.short n) ++ bs (Bt.sized (ky.drop n)) ++ bs (Nm.short sq) ++ (⟨#[1]⟩ : ByteArray)).size ≤ 113 := by rw [ByteArray.size_append]; omega
    have r1 : ∀ W, (Op.stringOp .add (bs (Nm.short n)) (bs (Bt.sized (ky.drop n)))).run Try.prog W = .ok (.string (bs (Nm.short n) ++ bs (Bt.sized (ky.drop n)))) W := fun W => run_string_add_sum W _ _ (by omega)
    have r2 : ∀ W, (Op.stringOp .add (bs (Nm.short n) ++ bs (Bt.sized (ky.drop n))) (bs (Nm.short sq))).run Try.prog W = .ok (.string (bs (Nm.short n) ++ bs (Bt.sized (ky.drop n)) ++ bs (Nm.short sq))) W := fun W => run_string_add_sum W _ _ (by omega)
    have r3 : ∀ W, (Op.stringOp .add (bs (Nm.short n) ++ bs (Bt.sized (ky.drop n)) ++ bs (Nm.short sq)) (⟨#[1]⟩ : ByteArray)).run Try.prog W = .ok (.string (bs (Nm.short n) ++ bs (Bt.sized (ky.drop n)) ++ bs (Nm.short sq) ++ (⟨#[1]⟩ : ByteArray))) W := fun W => run_string_add_sum W _ _ (by omega)
    have r4 : ∀ W, (Op.stringOp .add (bs (Nm.short n) ++ bs (Bt.sized (ky.drop n)) ++ bs (Nm.short sq) ++ (⟨#[1]⟩ : ByteArray)) (bs (Bt.sized vl))).run Try.prog W = .ok (.string (bs (Nm.short n) ++ bs (Bt.sized (ky.drop n)) ++ bs (Nm.short sq) ++ (⟨#[1]⟩ : ByteArray) ++ bs (Bt.sized vl))) W := fun W => run_string_add_sum W _ _ (by omega)
    have HE := Lib.hid (show bs (Nm.short n) ++ bs (Bt.sized (ky.drop n)) ++ bs (Nm.short sq) ++ (⟨#[1]⟩ : ByteArray) ++ bs (Bt.sized vl) = bs (Bk.encE n ⟨ky, sq, true, vl⟩) from bs_of (by simp [Bk.encE, Bk.mk, bs, ByteArray.data_append]))
    clear a1 a2 a3 m1
    go_enter Try.func58, Try.ntmps58
    go_wp2_with fail
    go_region_held3 (fun w' => w'.cell? ⟨w.heap.size, 0, none⟩ = some (.string (bs ky)) ∧ w'.cell? ⟨w.heap.size, 1, none⟩ = some (.int .u64 (sq : Nat)) ∧ w'.cell? ⟨w.heap.size, 3, none⟩ = some (.string (bs vl))) (first | exact KBox.cc (by assumption) | exact KBox.cc I0.out)
      (first
      | (go_at_call_of 61 (Value.int .u64 (n : Int)); refine (HS1.out _ (by first | assumption | exact I0.out)).mono ?_; rintro e w6 ⟨rfl, i6⟩)
      | (go_at_call_of 61 (Value.int .u64 (sq : Int)); refine (HS2.out _ (by first | assumption | exact I0.out)).mono ?_; rintro e w6 ⟨rfl, i6⟩)
      | (go_at_call_of 82 (Value.string (bs (ky.drop n))); refine (HK.out _ (by first | assumption | exact I0.out)).mono ?_; rintro e w6 ⟨rfl, i6⟩)
      | (go_at_call_of 82 (Value.string (bs vl)); refine (HV.out _ (by first | assumption | exact I0.out)).mono ?_; rintro e w6 ⟨rfl, i6⟩))
    all_goals
      have hk6 := i6.kp
      clear i6 HS1 HS2 HK HV I0 r1 r2 r3 r4
      go_wp2_with fail
      go_ret
      exact ⟨by rw [HE.out]; rfl, hk6⟩
/-- what stays while an entry's bytes are written: the two Builders, and the entry's box -/
structure KE (w1 : World) (L1 L2 : List UInt8) (bx : Nat) (x : Mm.Ent) (W : World) : Prop where
  two : KTwo w1 L1 L2 W
  bk : W.heap[bx]? = some (.cells #[.string (bs x.key), .int .u64 (x.seq : Nat), .bool x.del, .string (bs x.val)] 37 (0, 0))
  n1 : bx ≠ w1.heap.size
  n2 : bx ≠ w1.heap.size + 1
theorem KE.cc {w1 : World} {L1 L2 : List UInt8} {bx : Nat} {x : Mm.Ent} {W : World} (h : KE w1 L1 L2 bx x W) : W.cell? ⟨bx, 0, none⟩ = some (.string (bs x.key)) ∧ W.cell? ⟨bx, 1, none⟩ = some (.int .u64 (x.seq : Nat)) ∧ W.cell? ⟨bx, 2, none⟩ = some (.bool x.del) ∧ W.cell? ⟨bx, 3, none⟩ = some (.string (bs x.val)) :=
  ⟨blk_cell h.bk 0, blk_cell h.bk 1, blk_cell h.bk 2, blk_cell h.bk 3⟩
theorem KE.kept {w1 : World} {L1 L2 : List UInt8} {bx : Nat} {x : Mm.Ent} {W W' : World} (h : KE w1 L1 L2 bx x W) (k : Kept W W') : KE w1 L1 L2 bx x W' :=
  ⟨h.two.kept k, (Below.block k bx (Array.getElem?_eq_some_iff.1 h.bk).1).trans h.bk, h.n1, h.n2⟩
theorem ke_new {w1 : World} {L1 L2 : List UInt8} {W : World} (h : KTwo w1 L1 L2 W) (x : Mm.Ent) : KE w1 L1 L2 W.heap.size x (W.alloc (.cells #[.string (bs x.key), .int .u64 (x.seq : Nat), .bool x.del, .string (bs x.val)] 37)) := by
  have := h.size
  exact ⟨h.kept ((Kept.refl _).alloc _), by show (W.heap.push _)[W.heap.size]? = _; exact Array.getElem?_push_size, by omega, by omega⟩
theorem ke_inv {w1 : World} {L1 L2 : List UInt8} {bx : Nat} {x : Mm.Ent} {f : FuncId} {a : Array Value} {v : Value} (h : ∀ W, Calls Try.prog f a W fun e w' => e = .returned v ∧ Kept W w') (W : World) (hi : KE w1 L1 L2 bx x W) :
    Calls Try.prog f a W fun e w' => e = .returned v ∧ KE w1 L1 L2 bx x w' :=
  (h W).mono fun e w' ⟨h1, h2⟩ => ⟨h1, hi.kept h2⟩
theorem ke_write1 {w1 : World} {L1 L2 : List UInt8} {bx : Nat} {x : Mm.Ent} (s : ByteArray) (hlen : L1.length + s.size ≤ 16777216) (W : World) (hi : KE w1 L1 L2 bx x W) :
    Calls Try.prog 29 #[.pointer (some ⟨w1.heap.size, 0, none⟩), .string s] W fun e w' => e = .returned (.tuple #[.int .i64 s.size, .nilIface]) ∧ KE w1 (L1 ++ s.data.toList) L2 bx x w' :=
  (hi.two.write1 s hlen).mono fun e w' ⟨h1, h2, h3⟩ => ⟨h1, h2, h3 bx _ _ _ hi.n1 hi.n2 (by decide) hi.bk, hi.n1, hi.n2⟩
theorem ke_write2 {w1 : World} {L1 L2 : List UInt8} {bx : Nat} {x : Mm.Ent} (s : ByteArray) (hlen : L2.length + s.size ≤ 16777216) (W : World) (hi : KE w1 L1 L2 bx x W) :
    Calls Try.prog 29 #[.pointer (some ⟨w1.heap.size + 1, 0, none⟩), .string s] W fun e w' => e = .returned (.tuple #[.int .i64 s.size, .nilIface]) ∧ KE w1 L1 (L2 ++ s.data.toList) bx x w' :=
  (hi.two.write2 s hlen).mono fun e w' ⟨h1, h2, h3⟩ => ⟨h1, h2, h3 bx _ _ _ hi.n1 hi.n2 (by decide) hi.bk, hi.n1, hi.n2⟩
theorem E_ne {l : List Mm.Ent} {n : Nat} (h : n < l.length) : Bk.E l (n + 1) ≠ [] := fun q => by
  have hx : l[n]? = some l[n] := List.getElem?_eq_getElem h
  generalize l[n] = x at hx
  rw [Bk.E_succ, Bk.piece_is hx] at q
  have := congrArg List.length q
  have h2 := Bt.short_ne (Bk.shr l n)
  unfold Bk.encE at this
  simp only [List.length_append, List.length_nil] at this
  omega
theorem kencode_ok {w : World} {A : Option Addr} {l : List Mm.Ent} (c : Nat) (h : Els w A l) (hok : Bk.isB l = true) :
    Calls Try.prog 26 #[.slice A l.length c] w fun e w' => e = .returned (.tuple #[.string (bs (Bk.enc l)), .int .i64 0]) ∧ Kept w w' := by
  obtain ⟨h1, h2, hall, hrow⟩ := Bk.isB_iff.1 hok
  have hEl : OkEl l := fun x hx => by
    obtain ⟨_, q1, q2, _⟩ := Mm.may_iff.1 (hall x hx)
    unfold maxLen; omega
  have hisb := kisb_any c h (by unfold maxLen; omega) hEl
  rw [hok] at hisb
  have HIS := Lib.hid hisb; have HE := Lib.hid h; have HALL := Lib.hid hall
  have HEL := Lib.hid (fun k => Bk.E_len hall k)
  have HPL := Lib.hid (fun k => Bk.P_len l k)
  have HENC := Lib.hid (show bs (Bk.E l l.length) ++ bs (Bk.P l l.length) ++ bs (Nm.long l.length) = bs (Bk.enc l) from bs_of (by simp [Bk.enc, bs, ByteArray.data_append]))
  have hlg := long_any (l.length : Int) (by omega) (by omega)
  rw [Int.toNat_natCast] at hlg
  have HLG := Lib.hid hlg
  clear h hok hrow hEl hisb hall hlg
  go_enter Try.func26, Try.ntmps26
  go_wp2_with fail
  refine HIS.out.mono ?_
  rintro e w1 ⟨rfl, g1⟩
  have T0 := Lib.hid (ktwo_new w1); have G1 := Lib.hid g1
  clear g1
  go_wp2_with fail
  go_loopw [6, 14] (fun a t wr => ∃ k : Nat, k ≤ l.length ∧ t = .int .i64 k ∧ a = .string (bs (Bk.pre l k)) ∧ Hid (KTwo w1 (Bk.E l k) (Bk.P l k) wr)) (fun _ t _ => l.length - (intOf t).toNat)
  case atStart => exact ⟨0, Nat.zero_le _, rfl, rfl, T0⟩
  case round =>
    obtain ⟨k, hk, rfl, rfl, HT⟩ := hrel
    by_cases hlt : k < l.length
    · obtain ⟨x, hx⟩ : ∃ x, l[k]? = some x := ⟨_, List.getElem?_eq_getElem hlt⟩
      have hmem : x ∈ l := List.mem_of_getElem? hx
      have hsz := HT.out.size
      have hkr : Kept w wr := kept_trans G1.out HT.out.below
      obtain ⟨b, o, rfl, hb, c0, c1, c2, c3⟩ := (HE.out.kept hkr) k x hx
      have hmay := HALL.out x hmem
      have m2 := (Mm.may_iff.1 hmay).2.1
      have hkz := fbs_size x.key
      have hshl := Bk.shr_le hx
      have HB := Lib.hid (kentb_any x (Bk.shr l k) hmay hshl)
      have hel := (Bk.encE_len hmay hshl).1
      have hvl := (Mm.may_iff.1 hmay).2.2.1
      have hel2 : (bs (Bk.encE (Bk.shr l k) x)).size ≤ 210 := by rw [fbs_size]; omega
      have hE := HEL.out k
      have hP := HPL.out k
      have HES := Lib.hid (show Bk.E l (k + 1) = Bk.E l k ++ Bk.encE (Bk.shr l k) x by rw [Bk.E_succ, Bk.piece_is hx])
      have HPS := Lib.hid (Bk.pre_succ hx)
      have HPRE := Lib.hid (show (Bk.pre l k).length ≤ 100 by
        unfold Bk.pre
        split
        · simp
        · have hp : l[k - 1]? = some l[k - 1] := List.getElem?_eq_getElem (by omega)
          have := (Mm.may_iff.1 (HALL.out _ (List.getElem_mem (show k - 1 < l.length by omega)))).2.1
          rw [Bk.keyAt_some hp]; exact this)
      have HSP := Lib.hid (Bk.shr_pre hx)
      have HKE := Lib.hid (ke_new HT.out x)
      have HP1 := Lib.hid (fun (q : k % 4 = 0) => Bk.P_yes (l := l) q)
      have HP2 := Lib.hid (fun (q : k % 4 ≠ 0) => Bk.P_no (l := l) q)
      clear hx hmem hmay hel hvl
      obtain ⟨ky, sq, d, vl⟩ := x
      simp only at c0 c1 c2 c3 m2 hkz
      unfold entV at HB
      generalize Bk.encE (Bk.shr l k) ⟨ky, sq, d, vl⟩ = EB at *
      by_cases h4 : k % 4 = 0
      · have d1 : (((k : Int) % 4) == 0) = true := by simp; omega
        have hsp := HSP.out
        rw [if_pos h4] at hsp
        have hsh := kshared_any [] ky (by simp) (by unfold maxLen; omega)
        rw [← hsp] at hsh
        have HSH := Lib.hid hsh
        have hpl := HP1.out h4
        have hP8 : (Bk.P l k).length ≤ 100 := by omega
        have hlg2 := long_any ((Bk.E l k).length : Int) (by omega) (by omega)
        rw [Int.toNat_natCast] at hlg2
        have HLG2 := Lib.hid hlg2
        have z8 : (bs (Nm.long (Bk.E l k).length)).size = 8 := by rw [fbs_size, Nm.long_len]
        have HPL2 := Lib.hid hpl
        have hw : IntKind.u64.wrap (((Bk.E l k).length : Nat) : Int) = (((Bk.E l k).length : Nat) : Int) := by rw [IntKind.wrap_u64]; omega
        have HEV := Lib.hid (fun W (hi : KE w1 (Bk.E l k) (Bk.P l k) wr.heap.size ⟨ky, sq, d, vl⟩ W) => hi.two.len1)
        clear hsp hsh hlg2 hpl hP h4
        go_wp2_with fail
        refine (HEV.out _ HKE.out).mono ?_
        rintro e w2 ⟨rfl, rfl⟩
        go_wp2_with fail
        refine (HLG2.out _).mono ?_
        rintro e w3 ⟨rfl, g3⟩
        have HK3 := Lib.hid (HKE.out.kept g3)
        clear g3 hw
        go_wp2_with fail
        refine (ke_write2 _ (by omega) _ HK3.out).mono ?_
        rintro e w4 ⟨rfl, g4⟩
        rw [bs_data, ← HPL2.out] at g4
        have I0 := Lib.hid (g4.kept (kept_drewN _ 1))
        have HS := Lib.hid (ke_inv (w1 := w1) (L1 := Bk.E l k) (L2 := Bk.P l (k + 1)) (bx := wr.heap.size) (x := ⟨ky, sq, d, vl⟩) HSH.out)
        have HB2 := Lib.hid (ke_inv (w1 := w1) (L1 := Bk.E l k) (L2 := Bk.P l (k + 1)) (bx := wr.heap.size) (x := ⟨ky, sq, d, vl⟩) HB.out)
        have HW := Lib.hid (ke_write1 (w1 := w1) (L1 := Bk.E l k) (L2 := Bk.P l (k + 1)) (bx := wr.heap.size) (x := ⟨ky, sq, d, vl⟩) (bs EB) (by omega))
        have c4 := g4.cc
        clear HSH HB g4 HK3 HLG2 HPL2 c0 c1 c2 c3
        obtain ⟨c0, c1, c2, c3⟩ := c4
        generalize Bk.shr l k = N at *
        go_wp2_with fail
        go_region_held3 (fun w' => w'.cell? ⟨wr.heap.size, 0, none⟩ = some (.string (bs ky)) ∧ w'.cell? ⟨wr.heap.size, 1, none⟩ = some (.int .u64 (sq : Nat)) ∧ w'.cell? ⟨wr.heap.size, 2, none⟩ = some (.bool d) ∧ w'.cell? ⟨wr.heap.size, 3, none⟩ = some (.string (bs vl))) (first | exact KE.cc (by assumption) | exact KE.cc I0.out)
          (first
          | (go_at_call 59; refine (HS.out _ (by first | assumption | exact I0.out)).mono ?_; rintro e w6 ⟨rfl, i6⟩)
          | (go_at_call 58; refine (HB2.out _ (by first | assumption | exact I0.out)).mono ?_; rintro e w6 ⟨rfl, i6⟩)
          | (go_at_call 29; refine (HW.out _ (by first | assumption | exact I0.out)).mono ?_; rintro e w7 ⟨rfl, i7⟩))
        all_goals
          have c5 := i7.cc
          have HI7 := Lib.hid i7
          clear i7 HS HB2 HW I0 c0 c1 c2 c3
          obtain ⟨c0, c1, c2, c3⟩ := c5
          go_wp2_with fail
          go_roundw
          case rel => exact ⟨k + 1, by omega, by go_num, by rw [HPS.out], Lib.hid (by have := HI7.out.two; rw [bs_data, ← HES.out] at this; exact this)⟩
          case measure => simp [intOf]; omega
      · have d1 : (((k : Int) % 4) == 0) = false := by simp; omega
        have hsp := HSP.out
        rw [if_neg h4] at hsp
        have hsh := kshared_any (Bk.pre l k) ky (by have := HPRE.out; unfold maxLen; omega) (by unfold maxLen; omega)
        rw [← hsp] at hsh
        have HSH := Lib.hid hsh
        have HPL2 := Lib.hid (HP2.out h4)
        have I0 := Lib.hid (HKE.out.kept (kept_drewN _ 1))
        have HS := Lib.hid (ke_inv (w1 := w1) (L1 := Bk.E l k) (L2 := Bk.P l k) (bx := wr.heap.size) (x := ⟨ky, sq, d, vl⟩) HSH.out)
        have HB2 := Lib.hid (ke_inv (w1 := w1) (L1 := Bk.E l k) (L2 := Bk.P l k) (bx := wr.heap.size) (x := ⟨ky, sq, d, vl⟩) HB.out)
        have HW := Lib.hid (ke_write1 (w1 := w1) (L1 := Bk.E l k) (L2 := Bk.P l k) (bx := wr.heap.size) (x := ⟨ky, sq, d, vl⟩) (bs EB) (by omega))
        clear hsp hsh hP h4 HSH HB
        generalize Bk.shr l k = N at *
        go_wp2_with fail
        go_region_held3 (fun w' => w'.cell? ⟨wr.heap.size, 0, none⟩ = some (.string (bs ky)) ∧ w'.cell? ⟨wr.heap.size, 1, none⟩ = some (.int .u64 (sq : Nat)) ∧ w'.cell? ⟨wr.heap.size, 2, none⟩ = some (.bool d) ∧ w'.cell? ⟨wr.heap.size, 3, none⟩ = some (.string (bs vl))) (first | exact KE.cc (by assumption) | exact KE.cc I0.out)
          (first
          | (go_at_call 59; refine (HS.out _ (by first | assumption | exact I0.out)).mono ?_; rintro e w6 ⟨rfl, i6⟩)
          | (go_at_call 58; refine (HB2.out _ (by first | assumption | exact I0.out)).mono ?_; rintro e w6 ⟨rfl, i6⟩)
          | (go_at_call 29; refine (HW.out _ (by first | assumption | exact I0.out)).mono ?_; rintro e w7 ⟨rfl, i7⟩))
        all_goals
          have c5 := i7.cc
          have HI7 := Lib.hid i7
          clear i7 HS HB2 HW I0 c0 c1 c2 c3
          obtain ⟨c0, c1, c2, c3⟩ := c5
          go_wp2_with fail
          go_roundw
          case rel => exact ⟨k + 1, by omega, by go_num, by rw [HPS.out], Lib.hid (by have := HI7.out.two; rw [bs_data, ← HES.out, ← HPL2.out] at this; exact this)⟩
          case measure => simp [intOf]; omega
    · have e : k = l.length := by omega
      subst e
      have hne : Bk.E l l.length ≠ [] := by
        obtain ⟨n, hn⟩ : ∃ n, l.length = n + 1 := ⟨l.length - 1, by omega⟩
        rw [hn]; exact E_ne (by omega)
      have hE := HEL.out l.length
      have hP := HPL.out l.length
      have HNE := Lib.hid hne
      have z1 : (bs (Bk.E l l.length)).size ≤ 7000 := by rw [fbs_size]; omega
      have z2 : (bs (Bk.P l l.length)).size ≤ 100 := by rw [fbs_size]; omega
      have z3 : (bs (Nm.long l.length)).size = 8 := by rw [fbs_size, Nm.long_len]
      have z4 : (bs (Bk.E l l.length) ++ bs (Bk.P l l.length)).size ≤ 7100 := by rw [ByteArray.size_append]; omega
      have hw : IntKind.u64.wrap (l.length : Int) = (l.length : Int) := by rw [IntKind.wrap_u64]; omega
      have hs1 := HT.out.size
      clear hne hE hP
      go_wp2_with fail
      refine (HT.out.string1 HNE.out).mono ?_
      rintro e w2 ⟨rfl, hB2, g2⟩
      have hs2 : w1.heap.size ≤ w2.heap.size := Below.size g2
      go_wp2_with fail
      refine (bld_string _ _ _ _ hB2 hs2).mono ?_
      rintro e w3 ⟨rfl, g3⟩
      have G3 := Lib.hid (kept_trans G1.out (Below.trans g2 g3))
      clear hB2 g2 g3
      go_wp2_with fail
      refine (HLG.out _).mono ?_
      rintro e w4 ⟨rfl, g4⟩
      go_wp2_with fail
      go_ret2
      exact ⟨by rw [← HENC.out]; rfl, kept_trans G3.out g4⟩
theorem kencode_no {w : World} {A : Option Addr} {l : List Mm.Ent} (c : Nat) (h : Els w A l) (hl : l.length ≤ maxLen) (ho : OkEl l) (hok : Bk.isB l = false) :
    Calls Try.prog 26 #[.slice A l.length c] w fun e w' => e = .returned (.tuple #[.string (bs []), .int .i64 2]) ∧ Kept w w' := by
  have hisb := kisb_any c h hl ho
  rw [hok] at hisb
  have HIS := Lib.hid hisb
  clear hisb hok h ho
  go_enter Try.func26, Try.ntmps26
  go_wp2_with fail
  refine HIS.out.mono ?_
  rintro e w1 ⟨rfl, g1⟩
  go_wp2_with fail
  go_ret2
  exact ⟨rfl, g1⟩
theorem kencode_any {w : World} {A : Option Addr} {l : List Mm.Ent} (c : Nat) (h : Els w A l) (hl : l.length ≤ maxLen) (ho : OkEl l) :
    Calls Try.prog 26 #[.slice A l.length c] w fun e w' => e = .returned (.tuple #[.string (bs (Bk.encS l)), .int .i64 (Bk.encC l)]) ∧ Kept w w' := by
  cases hm : Bk.isB l with
  | false => rw [(Bk.enc_no hm).1, (Bk.enc_no hm).2]; exact kencode_no c h hl ho hm
  | true => rw [(Bk.enc_yes hm).1, (Bk.enc_yes hm).2]; exact kencode_ok c h hm
end Go.Proofs.Ytecjnebfhbdnaaa
