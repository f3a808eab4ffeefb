/-
  Package table: a place of a part, an index's bytes, a foot's bytes.
-/
import Derived.Test.YtecjnebfhbdnaaaTableGet
import Derived.Test.YtecjnebfhbdnaaaBloomMake
namespace Go.Proofs.Ytecjnebfhbdnaaa
open Go.ChangeShapes Go.WideShapes Go.ChangeAt Go.RowKit
set_option linter.unusedVariables false
set_option maxRecDepth 100000
set_option maxHeartbeats 2000000

def plV (p : Tb.Pl) : Value := .agg #[.string (bs p.key), .int .u64 (p.seq : Nat), .int .u64 (p.beg : Nat), .int .u64 (p.size : Nat)]
theorem tplace_any {w : World} {A : Option Addr} {l : List Mm.Ent} {y : Mm.Ent} (c : Nat) (h : Els w A l) (hy : l.getLast? = some y) (hl : l.length ≤ 4000) (b z : Nat) (hb : b ≤ 9223372036854775807) (hz : z ≤ 9223372036854775807) :
    Calls Try.prog 27 #[.slice A l.length c, .int .i64 (b : Nat), .int .i64 (z : Nat)] w fun e w' => e = .returned (plV ⟨y.key, y.seq, b, z⟩) ∧ Kept w w' := by
  rw [List.getLast?_eq_getElem?] at hy
  have hn := (List.getElem?_eq_some_iff.1 hy).1
  obtain ⟨m, hm⟩ : ∃ m, l.length = m + 1 := ⟨l.length - 1, by omega⟩
  rw [hm, Nat.add_sub_cancel] at hy
  rw [hm]
  obtain ⟨b1, o1, rfl, hb1, c0, c1, c2, c3⟩ := h m y hy
  have hw1 : IntKind.i64.wrap (m : Int) = (m : Int) := by rw [IntKind.wrap_i64]; omega
  have hw2 : IntKind.u64.wrap (b : Int) = (b : Int) := by rw [IntKind.wrap_u64]; omega
  have hw3 : IntKind.u64.wrap (z : Int) = (z : Int) := by rw [IntKind.wrap_u64]; omega
  have hne : b1 ≠ w.heap.size := by omega
  clear h hy hm hn hb hz
  go_enter Try.func27, Try.ntmps27
  go_wp2_with fail
  refine bodyPost_ret (v := plV ⟨y.key, y.seq, b, z⟩) (by simp [results, Try.results27, plV, go_sem]) rfl ⟨rfl, ?_⟩
  exact ((Kept.refl w).alloc _).alloc _
theorem tfoot_any (x y z : Nat) (hx : x ≤ 16777216) (hy : y ≤ 16777216) (hz : z ≤ 16777216) (w : World) :
    Calls Try.prog 34 #[.int .i64 (x : Nat), .int .i64 (y : Nat), .int .i64 (z : Nat)] w fun e w' => e = .returned (.string (bs (Nm.long x ++ (Nm.long y ++ (Nm.long z ++ Tb.magic))))) ∧ Kept w w' := by
  have h1 := long_any (x : Int) (by omega) (by omega)
  have h2 := long_any (y : Int) (by omega) (by omega)
  have h3 := long_any (z : Int) (by omega) (by omega)
  rw [Int.toNat_natCast] at h1 h2 h3
  have w1 : IntKind.u64.wrap (x : Int) = (x : Int) := by rw [IntKind.wrap_u64]; omega
  have w2 : IntKind.u64.wrap (y : Int) = (y : Int) := by rw [IntKind.wrap_u64]; omega
  have w3 : IntKind.u64.wrap (z : Int) = (z : Int) := by rw [IntKind.wrap_u64]; omega
  have H1 := Lib.hid h1; have H2 := Lib.hid h2; have H3 := Lib.hid h3
  have z1 : (bs (Nm.long x)).size = 8 := by rw [fbs_size, Tb.long_len]
  have z2 : (bs (Nm.long y)).size = 8 := by rw [fbs_size, Tb.long_len]
  have z3 : (bs (Nm.long z)).size = 8 := by rw [fbs_size, Tb.long_len]
  have z4 : (⟨#[115, 99, 114, 101, 101, 48, 48, 49]⟩ : ByteArray).size = 8 := rfl
  have a1 : (bs (Nm.long x) ++ bs (Nm.long y)).size = 16 := by rw [ByteArray.size_append]; omega
  have a2 : (bs (Nm.long x) ++ bs (Nm.long y) ++ bs (Nm.long z)).size = 24 := by rw [ByteArray.size_append]; omega
  have HE := Lib.hid (show bs (Nm.long x) ++ bs (Nm.long y) ++ bs (Nm.long z) ++ (⟨#[115, 99, 114, 101, 101, 48, 48, 49]⟩ : ByteArray) = bs (Nm.long x ++ (Nm.long y ++ (Nm.long z ++ Tb.magic))) from bs_of (by simp [Tb.magic, bs, ByteArray.data_append]))
  clear h1 h2 h3
  go_enter Try.func34, Try.ntmps34
  go_wp2_with fail
  refine (H1.out _).mono ?_
  rintro e w4 ⟨rfl, g1⟩
  go_wp2_with fail
  refine (H2.out _).mono ?_
  rintro e w5 ⟨rfl, g2⟩
  go_wp2_with fail
  refine (H3.out _).mono ?_
  rintro e w6 ⟨rfl, g3⟩
  go_wp2_with fail
  go_ret
  exact ⟨by rw [← HE.out]; rfl, kept_trans g1 (kept_trans g2 g3)⟩
namespace Tb
/-- a place's bytes -/
def tixb (p : Pl) : List UInt8 := Bt.sized p.key ++ (Nm.short p.seq ++ (Nm.short p.beg ++ Nm.short p.size))
def tixs (I : List Pl) (k : Nat) : List UInt8 := Nm.short I.length ++ ((I.take k).map tixb).flatten
theorem tixs_succ {I : List Pl} {k : Nat} {p : Pl} (h : I[k]? = some p) : tixs I (k + 1) = tixs I k ++ tixb p := by
  unfold tixs; rw [List.take_add_one, h]; simp
theorem tixs_zero (I : List Pl) : tixs I 0 = Nm.short I.length := by unfold tixs; simp
/-- places that an index may have -/
def OkP (p : Pl) : Prop := p.key.length ≤ 100 ∧ p.seq ≤ 1099511627776 ∧ p.beg ≤ 1048576 ∧ p.size ≤ 1048576
theorem tixb_len {p : Pl} (h : OkP p) : (tixb p).length ≤ 140 := by
  obtain ⟨h1, h2, h3, h4⟩ := h
  have := sz_ten p.key.length (by omega)
  have := sz_ten p.seq (by omega)
  have := sz_ten p.beg (by omega)
  have := sz_ten p.size (by omega)
  unfold tixb Bt.sized
  simp only [List.length_append]; omega
theorem tixs_len {I : List Pl} (hI : I.length ≤ 63) (h : ∀ p ∈ I, OkP p) : ∀ k, (tixs I k).length ≤ 10 + 140 * k
  | 0 => by rw [tixs_zero]; have := sz_ten I.length (by omega); omega
  | k + 1 => by
    have ih := tixs_len hI h k
    cases hk : I[k]? with
    | none => unfold tixs at ih ⊢; rw [List.take_add_one, hk]; simp at ih ⊢; omega
    | some p => rw [tixs_succ hk, List.length_append]; have := tixb_len (h p (List.mem_of_getElem? hk)); omega
end Tb
/-- what stays while a place's bytes are written: the Builder, and the place's box -/
structure IB (w0 : World) (L : List UInt8) (bx : Nat) (p : Tb.Pl) (W : World) : Prop where
  one : Bld w0.heap.size w0.heap.size L W
  below : Below w0.heap.size w0 W
  bk : W.heap[bx]? = some (.cells #[.string (bs p.key), .int .u64 (p.seq : Nat), .int .u64 (p.beg : Nat), .int .u64 (p.size : Nat)] 61 (0, 0))
  n1 : bx ≠ w0.heap.size
theorem IB.cc {w0 : World} {L : List UInt8} {bx : Nat} {p : Tb.Pl} {W : World} (h : IB w0 L bx p W) : W.cell? ⟨bx, 0, none⟩ = some (.string (bs p.key)) ∧ W.cell? ⟨bx, 1, none⟩ = some (.int .u64 (p.seq : Nat)) ∧ W.cell? ⟨bx, 2, none⟩ = some (.int .u64 (p.beg : Nat)) ∧ W.cell? ⟨bx, 3, none⟩ = some (.int .u64 (p.size : Nat)) :=
  ⟨blk_cell h.bk 0, blk_cell h.bk 1, blk_cell h.bk 2, blk_cell h.bk 3⟩
theorem IB.kept {w0 : World} {L : List UInt8} {bx : Nat} {p : Tb.Pl} {W W' : World} (h : IB w0 L bx p W) (k : Kept W W') : IB w0 L bx p W' :=
  ⟨h.one.kept k, h.below.trans (k.mono h.below.size), mblk_kept h.bk k, h.n1⟩
theorem ib_inv {w0 : World} {L : List UInt8} {bx : Nat} {p : Tb.Pl} {f : FuncId} {a : Array Value} {v : Value} (h : ∀ W, Calls Try.prog f a W fun e w' => e = .returned v ∧ Kept W w') (W : World) (hi : IB w0 L bx p W) :
    Calls Try.prog f a W fun e w' => e = .returned v ∧ IB w0 L bx p w' :=
  (h W).mono fun e w' ⟨h1, h2⟩ => ⟨h1, hi.kept h2⟩
theorem ib_write {w0 : World} {L : List UInt8} {bx : Nat} {p : Tb.Pl} (s : ByteArray) (hlen : L.length + s.size ≤ 16777216) (W : World) (hi : IB w0 L bx p W) :
    Calls Try.prog 29 #[.pointer (some ⟨w0.heap.size, 0, none⟩), .string s] W fun e w' => e = .returned (.tuple #[.int .i64 s.size, .nilIface]) ∧ IB w0 (L ++ s.data.toList) bx p w' :=
  (bld_write2 w0.heap.size w0.heap.size L s W hi.one hlen hi.below.size).mono fun e w' ⟨h1, h2, h3, h4⟩ => ⟨h1, h2, hi.below.trans h3, h4 bx _ _ _ hi.n1 (by decide) hi.bk, hi.n1⟩
theorem tindex_any {w : World} {A : Option Addr} {I : List Tb.Pl} (c : Nat) (h : Pls w A I) (hl : I.length ≤ 63) (hok : ∀ p ∈ I, Tb.OkP p) :
    Calls Try.prog 30 #[.slice A I.length c] w fun e w' => e = .returned (.string (bs (Tb.tixs I I.length))) ∧ Kept w w' := by
  have hs0 := short_any (I.length : Int) (by omega) (by omega)
  rw [Int.toNat_natCast] at hs0
  have HS0 := Lib.hid hs0
  have HP := Lib.hid h; have HOK := Lib.hid hok
  have hsz0 := Tb.sz_ten I.length (by omega)
  have hw0 : IntKind.u64.wrap (I.length : Int) = (I.length : Int) := by rw [IntKind.wrap_u64]; omega
  have HZ := Lib.hid (Tb.tixs_zero I)
  have HLEN := Lib.hid (Tb.tixs_len hl hok)
  have HB0 := Lib.hid (bld_new w)
  clear h hok hs0
  go_enter Try.func30, Try.ntmps30
  go_wp2_with fail
  refine (HS0.out _).mono ?_
  rintro e w1 ⟨rfl, g1⟩
  have HB1 := Lib.hid (HB0.out.kept g1)
  have hb1 : Below w.heap.size w w1 := ((Kept.refl w).alloc _).trans (g1.mono (by simp))
  have HW := Lib.hid (bld_write w.heap.size w.heap.size [] (bs (Nm.short I.length)) w1 HB1.out (by rw [fbs_size]; simp; omega) hb1.size)
  have HBL := Lib.hid hb1
  clear g1 hb1
  go_wp2_with fail
  refine HW.out.mono ?_
  rintro e w2 ⟨rfl, hb2, hbl2⟩
  rw [List.nil_append, bs_data, ← HZ.out] at hb2
  have HB2 := Lib.hid hb2
  have HBL2 := Lib.hid (HBL.out.trans hbl2)
  clear hb2 hbl2 HW HB1 HBL HB0
  go_wp2_with fail
  go_loopw [13] (fun t wr => ∃ k : Nat, k ≤ I.length ∧ t = .int .i64 k ∧ Hid (Bld w.heap.size w.heap.size (Tb.tixs I k) wr) ∧ Hid (Below w.heap.size w wr)) (fun t _ => I.length - (intOf t).toNat)
  case atStart => exact ⟨0, Nat.zero_le _, rfl, HB2, HBL2⟩
  case round =>
    obtain ⟨k, hk, rfl, HB, HBB⟩ := hrel
    by_cases hlt : k < I.length
    · obtain ⟨p, hp⟩ : ∃ p, I[k]? = some p := ⟨_, List.getElem?_eq_getElem hlt⟩
      have hpok := HOK.out p (List.mem_of_getElem? hp)
      have hst := Tb.tixs_succ hp
      have hlen := HLEN.out k
      obtain ⟨b, o, rfl, hb, c0, c1, c2, c3⟩ := (HP.out.kept HBB.out) k p hp
      have hbz := HBB.out.size
      have hIB : IB w (Tb.tixs I k) wr.heap.size p (wr.alloc (.cells #[.string (bs p.key), .int .u64 (p.seq : Nat), .int .u64 (p.beg : Nat), .int .u64 (p.size : Nat)] 61)).drew :=
        ⟨(HB.out.kept ((Kept.refl _).alloc _)).kept (kept_drewN _ 1), HBB.out.trans ((kept_trans ((Kept.refl wr).alloc _) (kept_drewN _ 1)).mono hbz), malloc_new wr _, by
          obtain ⟨q, v, _, _, hq, _⟩ := HB.out
          have := mheap_lt hq
          omega⟩
      obtain ⟨q1, q2, q3, q4⟩ := hpok
      have hEQ := Lib.hid (show Tb.tixb p = Bt.sized p.key ++ (Nm.short p.seq ++ (Nm.short p.beg ++ Nm.short p.size)) from rfl)
      generalize Tb.tixb p = XB at *
      have hxl := Tb.tixb_len (p := p) ⟨q1, q2, q3, q4⟩
      obtain ⟨ky, sq, be, zz⟩ := p
      simp only at c0 c1 c2 c3 q1 q2 q3 q4 hEQ
      have hkz := fbs_size ky
      have hs1 := short_any (ky.length : Int) (by omega) (by omega)
      have hs2 := short_any (sq : Int) (by omega) (by omega)
      have hs3 := short_any (be : Int) (by omega) (by omega)
      have hs4 := short_any (zz : Int) (by omega) (by omega)
      rw [Int.toNat_natCast] at hs1 hs2 hs3 hs4
      have l1 : (bs (Nm.short ky.length)).size ≤ 10 := by rw [fbs_size]; exact Tb.sz_ten _ (by omega)
      have l2 : (bs (Nm.short sq)).size ≤ 10 := by rw [fbs_size]; exact Tb.sz_ten _ (by omega)
      have l3 : (bs (Nm.short be)).size ≤ 10 := by rw [fbs_size]; exact Tb.sz_ten _ (by omega)
      have l4 : (bs (Nm.short zz)).size ≤ 10 := by rw [fbs_size]; exact Tb.sz_ten _ (by omega)
      have hkw : IntKind.u64.wrap (ky.length : Int) = (ky.length : Int) := by rw [IntKind.wrap_u64]; omega
      have a1 : (bs (Nm.short ky.length) ++ bs ky).size ≤ 110 := by rw [ByteArray.size_append]; omega
      have a2 : (bs (Nm.short ky.length) ++ bs ky ++ bs (Nm.short sq)).size ≤ 120 := by rw [ByteArray.size_append]; omega
      have a3 : (bs (Nm.short ky.length) ++ bs ky ++ bs (Nm.short sq) ++ bs (Nm.short be)).size ≤ 130 := by rw [ByteArray.size_append]; omega
      have a4 : (bs (Nm.short ky.length) ++ bs ky ++ bs (Nm.short sq) ++ bs (Nm.short be) ++ bs (Nm.short zz)).size ≤ 140 := by rw [ByteArray.size_append]; omega
      have r1 : ∀ W, (Op.stringOp .add (bs (Nm.short ky.length)) (bs ky)).run Try.prog W = .ok (.string (bs (Nm.short ky.length) ++ bs ky)) W := fun W => run_string_add_sum W _ _ (by omega)
      have r2 : ∀ W, (Op.stringOp .add (bs (Nm.short ky.length) ++ bs ky) (bs (Nm.short sq))).run Try.prog W = .ok (.string (bs (Nm.short ky.length) ++ bs ky ++ bs (Nm.short sq))) W := fun W => run_string_add_sum W _ _ (by omega)
      have r3 : ∀ W, (Op.stringOp .add (bs (Nm.short ky.length) ++ bs ky ++ bs (Nm.short sq)) (bs (Nm.short be))).run Try.prog W = .ok (.string (bs (Nm.short ky.length) ++ bs ky ++ bs (Nm.short sq) ++ bs (Nm.short be))) W := fun W => run_string_add_sum W _ _ (by omega)
      have r4 : ∀ W, (Op.stringOp .add (bs (Nm.short ky.length) ++ bs ky ++ bs (Nm.short sq) ++ bs (Nm.short be)) (bs (Nm.short zz))).run Try.prog W = .ok (.string (bs (Nm.short ky.length) ++ bs ky ++ bs (Nm.short sq) ++ bs (Nm.short be) ++ bs (Nm.short zz))) W := fun W => run_string_add_sum W _ _ (by omega)
      have HE := Lib.hid (show bs (Nm.short ky.length) ++ bs ky ++ bs (Nm.short sq) ++ bs (Nm.short be) ++ bs (Nm.short zz) = bs XB from bs_of (by rw [hEQ.out]; simp [Bt.sized, bs, ByteArray.data_append]))
      have H1 := Lib.hid (ib_inv (w0 := w) (L := Tb.tixs I k) (bx := wr.heap.size) (p := ⟨ky, sq, be, zz⟩) hs1)
      have H2 := Lib.hid (ib_inv (w0 := w) (L := Tb.tixs I k) (bx := wr.heap.size) (p := ⟨ky, sq, be, zz⟩) hs2)
      have H3 := Lib.hid (ib_inv (w0 := w) (L := Tb.tixs I k) (bx := wr.heap.size) (p := ⟨ky, sq, be, zz⟩) hs3)
      have H4 := Lib.hid (ib_inv (w0 := w) (L := Tb.tixs I k) (bx := wr.heap.size) (p := ⟨ky, sq, be, zz⟩) hs4)
      have H5 := Lib.hid (ib_write (w0 := w) (L := Tb.tixs I k) (bx := wr.heap.size) (p := ⟨ky, sq, be, zz⟩) (bs (Nm.short ky.length) ++ bs ky ++ bs (Nm.short sq) ++ bs (Nm.short be) ++ bs (Nm.short zz)) (by omega))
      have I0 := Lib.hid hIB
      have HST := Lib.hid hst
      have hi0 : (bs ky).size = ky.length := hkz
      clear hp hst hs1 hs2 hs3 hs4 hIB a1 a2 a3 a4 hkz HB hxl hEQ
      go_wp2_with fail
      go_region_held3 (fun w' => w'.cell? ⟨wr.heap.size, 0, none⟩ = some (.string (bs ky)) ∧ w'.cell? ⟨wr.heap.size, 1, none⟩ = some (.int .u64 (sq : Nat)) ∧ w'.cell? ⟨wr.heap.size, 2, none⟩ = some (.int .u64 (be : Nat)) ∧ w'.cell? ⟨wr.heap.size, 3, none⟩ = some (.int .u64 (zz : Nat))) (first | exact IB.cc (by assumption) | exact IB.cc I0.out)
        (first
        | (go_at_call_of 29 (Value.pointer (some ⟨w.heap.size, 0, none⟩)); refine (H5.out _ (by first | assumption | exact I0.out)).mono ?_; rintro e w7 ⟨rfl, i7⟩)
        | (go_at_call_of 61 (Value.int .u64 (ky.length : Int)); refine (H1.out _ (by first | assumption | exact I0.out)).mono ?_; rintro e w6 ⟨rfl, i6⟩)
        | (go_at_call_of 61 (Value.int .u64 (sq : Int)); refine (H2.out _ (by first | assumption | exact I0.out)).mono ?_; rintro e w6 ⟨rfl, i6⟩)
        | (go_at_call_of 61 (Value.int .u64 (be : Int)); refine (H3.out _ (by first | assumption | exact I0.out)).mono ?_; rintro e w6 ⟨rfl, i6⟩)
        | (go_at_call_of 61 (Value.int .u64 (zz : Int)); refine (H4.out _ (by first | assumption | exact I0.out)).mono ?_; rintro e w6 ⟨rfl, i6⟩))
      all_goals
        rw [HE.out, bs_data, ← HST.out] at i7
        have HB7 := Lib.hid i7.one
        have HK7 := Lib.hid i7.below
        clear i7 H1 H2 H3 H4 H5 I0 r1 r2 r3 r4
        go_wp2_with fail
        go_roundw
        case rel => exact ⟨k + 1, by omega, by go_num, HB7, HK7⟩
        case measure => simp [intOf]; omega
    · have e : k = I.length := by omega
      subst e
      have HSTR := Lib.hid (bld_string w.heap.size w.heap.size (Tb.tixs I I.length) wr HB.out HBB.out.size)
      clear HB
      go_wp2_with fail
      refine HSTR.out.mono ?_
      rintro e w3 ⟨rfl, g3⟩
      go_wp2_with fail
      go_ret
      exact ⟨rfl, HBB.out.trans g3⟩
end Go.Proofs.Ytecjnebfhbdnaaa
