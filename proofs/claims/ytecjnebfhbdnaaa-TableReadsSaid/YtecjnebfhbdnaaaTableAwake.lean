/-
  The calls of layer 11 whose answers the document fixes: they are answered so.
-/
import Derived.Test.YtecjnebfhbdnaaaTableOpen
import Derived.Test.YtecjnebfhbdnaaaPackMem
namespace Go.Proofs.Ytecjnebfhbdnaaa
open Go.ChangeShapes Go.WideShapes Go.ChangeAt Go.RowKit
set_option linter.unusedVariables false
set_option maxRecDepth 100000
set_option maxHeartbeats 8000000

def twe (i : Nat) : Mm.Ent := ⟨[107, (97 + i).toUInt8], 5, false, [118]⟩
def twl : List Mm.Ent := (List.range 9).map twe
theorem tw_len : twl.length = 9 := rfl
theorem tw_isT : Tb.isT twl = true := by decide
theorem tw_keys : (Tb.keys twl).length = 9 := by decide
theorem tw_long : 42 ≤ (Tb.enc twl).length := by
  have h1 := Bm.made_len (Tb.keys twl)
  rw [tw_keys] at h1
  have h2 := Tb.foot_len twl
  unfold Tb.enc Tb.fl
  simp only [List.length_append]
  omega
theorem tw_magic : (Tb.enc twl).drop ((Tb.enc twl).length - 8) = Tb.magic := by
  have e : Tb.enc twl = (Tb.out twl (Tb.nb twl) ++ (Tb.idx twl ++ (Tb.fl twl ++ (Nm.long (Tb.idx twl).length ++ (Nm.long (Tb.fl twl).length ++ Nm.long twl.length))))) ++ Tb.magic := by
    unfold Tb.enc Tb.foot; simp only [List.append_assoc]
  rw [e]
  generalize (Tb.out twl (Tb.nb twl) ++ (Tb.idx twl ++ (Tb.fl twl ++ (Nm.long (Tb.idx twl).length ++ (Nm.long (Tb.fl twl).length ++ Nm.long twl.length))))) = X
  have : (X ++ Tb.magic).length - 8 = X.length := by rw [List.length_append, show Tb.magic.length = 8 from rfl]; omega
  rw [this, List.drop_left]
theorem tw_more : Tb.dec (Tb.enc twl ++ [63]) = none := by
  cases h : Tb.dec (Tb.enc twl ++ [63]) with
  | none => rfl
  | some m =>
    obtain ⟨h1, h2, _⟩ := Tb.dec_back h
    have := Tb.apart h1 tw_isT (a := []) (b := [63]) (by rw [List.append_nil]; exact h2)
    rw [this] at h2
    have := congrArg List.length h2
    simp at this
theorem tw_get1 : twl.find? (Mm.mt [107, 99] 9) = some (twe 2) := by decide
theorem tw_get2 : twl.find? (Mm.mt [107, 99] 4) = none := by decide
theorem tw_cost1 : Tb.cost twl [107, 99] 9 = 1 := by
  unfold Tb.cost
  rw [if_pos]
  exact ⟨Bm.made_may (Tb.keys_has (show twe 2 ∈ twl by decide)), by decide⟩
theorem tw_cost2 : Tb.cost twl [122] 9 = 0 := by
  unfold Tb.cost
  rw [if_neg]
  rintro ⟨_, h⟩
  revert h
  decide
theorem tw_from : (Tb.frm twl [107, 104] 9).length = 2 := by decide
theorem tw_nb : Tb.nb twl = 2 := rfl
theorem tw_key (k : Nat) (h : k < 9) : ((97 + k).toUInt8.toNat : Int) = 97 + (k : Int) := by
  rw [Nm.u8_mod]; omega
theorem tw_take {k : Nat} (h : k < 9) : twl.take (k + 1) = twl.take k ++ [twe k] := by
  rw [List.take_add_one]
  congr 1
  unfold twl
  rw [List.getElem?_map, List.getElem?_range h]
  rfl
structure KT (a b : World) : Prop where
  k : Kept a b
theorem tw_same {W : World} {A B : Option Addr} (c d : Nat) (h1 : Els W A twl) (h2 : Els W B twl) : Calls Try.prog 11 #[.slice A 9 c, .slice B 9 d] W fun e w' => e = .returned (.bool true) ∧ Kept W w' := by
  have := msame_any A B c d twl twl (by decide) (by decide) W h1 h2
  rw [decide_eq_true rfl] at this
  exact this.mono fun e w' ⟨h1, q, h2⟩ => ⟨h1, by rw [h2]; exact kept_drewN W q⟩
theorem tw_cells {W : World} {b c : Nat} {l : List Mm.Ent} (h : Els W (some ⟨b, 0, none⟩) l) {i j : Nat} {x : Mm.Ent} (hx : l[i]? = some x) (hj : j = i * 4) (W' : World) (g : Kept W W') : W'.cell? ⟨b, j, none⟩ = some (.string (bs x.key)) ∧ W'.cell? ⟨b, j + 1, none⟩ = some (.int .u64 (x.seq : Nat)) ∧ W'.cell? ⟨b, j + 2, none⟩ = some (.bool x.del) ∧ W'.cell? ⟨b, j + 3, none⟩ = some (.string (bs x.val)) := by
  obtain ⟨b', o', e, hb, c0, c1, c2, c3⟩ := h i x hx
  cases e
  rw [Nat.zero_add, ← hj] at c0 c1 c2 c3
  exact ⟨(kept_cell g hb).trans c0, (kept_cell g hb).trans c1, (kept_cell g hb).trans c2, (kept_cell g hb).trans c3⟩
theorem tw_box {W : World} {b : Nat} {x : Mm.Ent} (h : W.heap[b]? = some (.cells #[.string (bs x.key), .int .u64 (x.seq : Nat), .bool x.del, .string (bs x.val)] 37 (0, 0))) (W' : World) (g : Kept W W') : W'.cell? ⟨b, 0, none⟩ = some (.string (bs x.key)) ∧ W'.cell? ⟨b, 1, none⟩ = some (.int .u64 (x.seq : Nat)) ∧ W'.cell? ⟨b, 2, none⟩ = some (.bool x.del) ∧ W'.cell? ⟨b, 3, none⟩ = some (.string (bs x.val)) :=
  ⟨blk_cell (mblk_kept h g) 0, blk_cell (mblk_kept h g) 1, blk_cell (mblk_kept h g) 2, blk_cell (mblk_kept h g) 3⟩
theorem own_entsT (wr : World) {B : Nat} (hB : B ≤ wr.heap.size) : (wr.alloc (.cells #[] 37)).ownsRow B 37 4 (.slice (some ⟨wr.heap.size, 0, none⟩) 0 0) ([] : List Mm.Ent).length (elc []) :=
  World.ownsRow_lit (base := B) (e := 37) (size := 4) wr #[] 0 hB (by unfold maxLen; omega) rfl
theorem tawake_any (w : World) : Calls Try.prog 7 #[] w fun e w' => e = .returned (.bool true) ∧ Kept w w' := by
  obtain ⟨i0, hi, hz0, hz1, hz2⟩ := info_parts mentInfo
  have HI := Lib.hid hi; have HZ0 := Lib.hid hz0; have HZ1 := Lib.hid hz1; have HZ2 := Lib.hid hz2
  have HEMP := Lib.hid (own_entsT w (Nat.le_refl _))
  clear hi hz0 hz1 hz2
  go_enter Try.func7, Try.ntmps7
  go_wp2_with fail
  go_loopw [1, 2] (fun v t wr => ∃ k : Nat, k ≤ 9 ∧ t = .int .i64 k ∧ Hid (wr.ownsRow w.heap.size 37 4 v (twl.take k).length (elc (twl.take k))) ∧ Hid (Kept w wr)) (fun v t _ => 9 - (intOf t).toNat)
  case atStart => exact ⟨0, by omega, rfl, HEMP, Lib.hid ((Kept.refl w).alloc _)⟩
  case round =>
    obtain ⟨k, hk, rfl, HO, HK⟩ := hrel
    obtain ⟨B0, c0, rfl, _, _⟩ := els_own HO.out
    have hlk : (twl.take k).length = k := by rw [List.length_take, tw_len]; omega
    have hsz := Below.size HK.out
    by_cases hlt : k < 9
    · obtain ⟨u, hu⟩ : ∃ u : UInt8, u = (97 + k).toUInt8 := ⟨_, rfl⟩
      have huk := tw_key k hlt
      rw [← hu] at huk
      have e1 : IntKind.i64.wrap (97 + (k : Int)) = (u.toNat : Int) := by rw [IntKind.wrap_i64]; omega
      have e2 : IntKind.u8.wrap ((u.toNat : Nat) : Int) = (u.toNat : Int) := by have := u.toNat_lt; rw [IntKind.wrap_u8]; omega
      have hcv := conv_row wr [u] #[.int .u8 (u.toNat : Int)] 5 1 1 rfl rfl
      have HST := Lib.hid (tw_take hlt)
      have HU := Lib.hid hu
      have hlk2 := hlk
      have z2 : (⟨#[107]⟩ : ByteArray).size + (bs [u]).size ≤ 2 := by rw [fbs_size]; exact Nat.le_refl _
      have HKEY := Lib.hid (show (⟨#[107]⟩ : ByteArray) ++ bs [u] = bs [107, u] from bs_of (by simp [bs, ByteArray.data_append]))
      generalize twl.take k = X at *
      have HLK := Lib.hid hlk
      clear hu huk hlk hlk2
      go_wp2_with (at_builtin; go_loud (refine wpList_append_own _ rfl _ _ 22 rfl w.heap.size 37 i0 zentV 4 48 Try.underlying22 HI.out HZ0.out HZ1.out HZ2.out rfl (by decide) _ X.length (elc X) rfl ((HO.out.alloc _).alloc _) ⟨wr.heap.size + 1, 0, none⟩ 1 1 [.string (⟨#[107]⟩ ++ bs [u]), .int .u64 5, .bool false, .string ⟨#[118]⟩] rfl rfl (mcells_new4 _ _ _ _ _ _ _ (by simp)) (by simp [Value.oneCell']) (by have := HLK.out; unfold maxLen; omega) (by have := HLK.out; omega) (by simp; omega) ?_))
      intro v1 w3 hown hg _
      have hrow := fun b hb => (HO.out.lt b hb).1
      have HO3 := Lib.hid (show w3.ownsRow w.heap.size 37 4 v1 (twl.take (k + 1)).length (elc (twl.take (k + 1))) by
        rw [HST.out, List.length_append, elc_snoc]
        rw [HKEY.out, HU.out] at hown
        exact hown)
      have HK3 := Lib.hid (show Kept w w3 from Below.grown ((HK.out.alloc _).alloc _) hg (by simp; omega) hrow)
      clear hown hg hrow HO HST hcv
      go_wp2_with fail
      go_roundw
      case rel => exact ⟨k + 1, by omega, by go_num, HO3, HK3⟩
      case measure => simp [intOf]; omega
    · have e : k = 9 := by omega
      subst e
      have hel : Els wr B0 twl := by
        obtain ⟨A', c', e', _, q⟩ := els_own HO.out
        have e2 : twl.take 9 = twl := rfl
        rw [e2] at e' q
        cases e'
        exact q.els
      have hcap : 9 ≤ c0 ∧ c0 ≤ maxLen := by
        obtain ⟨A', c', e', _, q⟩ := els_own HO.out
        have e2 : twl.take 9 = twl := rfl
        rw [e2] at e' q
        cases e'
        exact ⟨q.cap, q.most⟩
      have hB1 : ∃ b1, B0 = some ⟨b1, 0, none⟩ := by
        rcases HO.out.2 with ⟨_, h0⟩ | ⟨g, cap, cur, hv, _⟩
        · rw [show (twl.take 9).length = 9 from rfl] at h0; omega
        · exact ⟨g, by cases hv; rfl⟩
      obtain ⟨b1, rfl⟩ := hB1
      rw [show (twl.take 9).length = 9 from rfl]
      have HE := Lib.hid hel
      have hbd := fun (W : World) (g : Kept wr W) => tbuild_any c0 (hel.kept g) (by rw [tw_len]; exact hcap.1) hcap.2 (fun x hx => by
        obtain ⟨_, q1, q2, _⟩ := Mm.may_iff.1 ((Tb.isT_iff.1 tw_isT).2.2.1 x hx)
        unfold maxLen; omega)
      rw [(Tb.encS_yes tw_isT).1, (Tb.encS_yes tw_isT).2, tw_len] at hbd
      have HBD := Lib.hid hbd
      have hop := fun (W : World) => topen_enc tw_isT W
      have hnl := fun (W : World) => tbuild_any (w := W) (A := none) (l := []) 0 (fun j x hx => by simp at hx) (by simp) (by simp) (fun x hx => by simp at hx)
      rw [(Tb.encS_no (show Tb.isT [] = false by decide)).1, (Tb.encS_no (show Tb.isT [] = false by decide)).2] at hnl
      have HNL := Lib.hid hnl
      have hmo := fun (W : World) => topen_none (s := Tb.enc twl ++ [63]) (by have := Tb.enc_len tw_isT; rw [List.length_append]; simp; omega) tw_more W
      have hsum : bs (Tb.enc twl) ++ ⟨#[63]⟩ = bs (Tb.enc twl ++ [63]) := bs_of (by simp [bs, ByteArray.data_append])
      rw [← hsum] at hmo
      have hz := fbs_size (Tb.enc twl)
      have hl1 := tw_long
      have hl2 := Tb.enc_len tw_isT
      have hmg : (bs (Tb.enc twl)).extract ((Tb.enc twl).length - 8) (bs (Tb.enc twl)).size = bs Tb.magic := by
        have := extract_drop (Tb.enc twl) ((Tb.enc twl).length - 8)
        rw [tw_magic] at this
        exact this
      rw [← hz] at hl1 hl2 hmg
      generalize bs (Tb.enc twl) = ES at *
      obtain ⟨mm, hmm⟩ : ∃ mm, mm = ES.size - 8 := ⟨_, rfl⟩
      rw [← hmm] at hmg
      have w8 : IntKind.i64.wrap ((ES.size : Int) - 8) = (mm : Int) := by rw [IntKind.wrap_i64]; omega
      have hle : mm ≤ ES.size := by omega
      have t1 : ((ES.extract mm ES.size).toList == [115, 99, 114, 101, 101, 48, 48, 49]) = true := by
        rw [hmg, Lib.toList_data, bs_data]; rfl
      have d40 : decide ((ES.size : Int) < 40) = false := decide_eq_false (by omega)
      have z63 : (⟨#[63]⟩ : ByteArray).size = 1 := rfl
      have HOP := Lib.hid hop; have HMO := Lib.hid hmo
      have hes : ES.size ≤ 460000 := hl2
      clear hbd hop hnl hmo hsum hz hl1 hl2 hmg hmm hel HO
      go_wp2_with fail
      refine (HBD.out _ (Kept.refl _)).mono ?_
      rintro e w1 ⟨rfl, g1⟩
      go_wp2_with fail
      refine (HOP.out _).mono ?_
      rintro e w2 ⟨p5, rfl, hT2, hpw, g2⟩
      have HT2 := Lib.hid hT2
      clear hT2
      go_wp2_with fail
      refine (HNL.out _).mono ?_
      rintro e w3 ⟨rfl, g3⟩
      go_wp2_with fail
      refine (HMO.out _).mono ?_
      rintro e w4 ⟨rfl, g4⟩
      have HT4 := Lib.hid ((HT2.out.kept g3).kept g4)
      have K4 := Lib.hid (kept_trans g1 (kept_trans g2 (kept_trans g3 g4)))
      have hg1 := tget_any HT4.out tw_isT [107, 99] (by simp [maxLen]) 9
      rw [tw_get1] at hg1
      unfold tgV entV at hg1
      simp only [Option.getD_some, Option.isSome_some] at hg1
      have HG1 := Lib.hid hg1
      clear g1 g2 g3 g4 HBD HOP HNL HMO HT2 hg1
      go_wp2_with fail
      refine HG1.out.mono ?_
      rintro e w5 ⟨rfl, g5⟩
      have HT5 := Lib.hid ((HT4.out.kept g5).kept ((Kept.refl w5).alloc (.cells #[.string (bs (twe 2).key), .int .u64 ((twe 2).seq : Nat), .bool (twe 2).del, .string (bs (twe 2).val)] 37)))
      have K5 := Lib.hid (kept_trans K4.out g5)
      have BX := Lib.hid (malloc_new w5 (.cells #[.string (bs (twe 2).key), .int .u64 ((twe 2).seq : Nat), .bool (twe 2).del, .string (bs (twe 2).val)] 37))
      have hg2 := tget_any HT5.out tw_isT [107, 99] (by simp [maxLen]) 4
      rw [tw_get2] at hg2
      unfold tgV entV at hg2
      simp only [Option.getD_none, Option.isSome_none] at hg2
      have HG2 := Lib.hid hg2
      clear g5 HG1 hg2 HT4 K4
      go_wp2_with fail
      refine HG2.out.mono ?_
      rintro e w6 ⟨rfl, g6⟩
      have HT6 := Lib.hid ((HT5.out.kept g6).kept ((Kept.refl w6).alloc (.cells #[.string (bs Mm.zent.key), .int .u64 (Mm.zent.seq : Nat), .bool Mm.zent.del, .string (bs Mm.zent.val)] 37)))
      have K6 := Lib.hid (kept_trans ((Kept.refl w5).alloc _) g6)
      have BX6 := Lib.hid (mblk_kept BX.out g6)
      have he := tends_any HT6.out tw_isT (x := twe 0) (y := twe 8) rfl rfl
      unfold entV at he
      have HEN := Lib.hid he
      clear g6 HG2 HT5 he
      go_wp2_with fail
      refine HEN.out.mono ?_
      rintro e w7 ⟨rfl, g7⟩
      have K7 := Lib.hid (kept_trans ((Kept.refl w6).alloc _) g7)
      have HT7 := Lib.hid (HT6.out.kept g7)
      clear g7 HEN HT6
      go_wp2_with fail
      obtain ⟨w9, hw9⟩ : ∃ w9, w9 = (w7.alloc (.cells #[.string (bs (twe 0).key), .int .u64 ((twe 0).seq : Nat), .bool (twe 0).del, .string (bs (twe 0).val)] 37)).alloc (.cells #[.string (bs (twe 8).key), .int .u64 ((twe 8).seq : Nat), .bool (twe 8).del, .string (bs (twe 8).val)] 37) := ⟨_, rfl⟩
      rw [← hw9]
      have k79 : Kept w7 w9 := by rw [hw9]; exact ((Kept.refl w7).alloc _).alloc _
      have by9 : w9.heap[w7.heap.size]? = some (.cells #[.string (bs (twe 0).key), .int .u64 ((twe 0).seq : Nat), .bool (twe 0).del, .string (bs (twe 0).val)] 37 (0, 0)) := by rw [hw9]; exact mblk_kept (malloc_new w7 (.cells #[.string (bs (twe 0).key), .int .u64 ((twe 0).seq : Nat), .bool (twe 0).del, .string (bs (twe 0).val)] 37)) ((Kept.refl _).alloc _)
      have bz9 : w9.heap[w7.heap.size + 1]? = some (.cells #[.string (bs (twe 8).key), .int .u64 ((twe 8).seq : Nat), .bool (twe 8).del, .string (bs (twe 8).val)] 37 (0, 0)) := by
        rw [hw9]; have := malloc_new (w7.alloc (.cells #[.string (bs (twe 0).key), .int .u64 ((twe 0).seq : Nat), .bool (twe 0).del, .string (bs (twe 0).val)] 37)) (.cells #[.string (bs (twe 8).key), .int .u64 ((twe 8).seq : Nat), .bool (twe 8).del, .string (bs (twe 8).val)] 37); rwa [malloc_size] at this
      have bx9 := mblk_kept (mblk_kept BX6.out K7.out) k79
      have kr9 : Kept wr w9 := kept_trans K5.out (kept_trans K6.out (kept_trans K7.out k79))
      have hE9 := HE.out.kept kr9
      have hT9 := HT7.out.kept k79
      have HX := Lib.hid (tw_box (x := twe 2) bx9); have HY := Lib.hid (tw_box (x := twe 0) by9); have HZ := Lib.hid (tw_box (x := twe 8) bz9)
      have HL2 := Lib.hid (tw_cells (c := 0) hE9 (i := 2) (j := 8) (x := twe 2) rfl rfl); have HL0 := Lib.hid (tw_cells (c := 0) hE9 (i := 0) (j := 0) (x := twe 0) rfl rfl); have HL8 := Lib.hid (tw_cells (c := 0) hE9 (i := 8) (j := 32) (x := twe 8) rfl rfl)
      have HEL := Lib.hid (fun (W : World) (g : Kept w9 W) => hE9.kept g)
      have HLEN := Lib.hid (fun (W : World) (g : Kept w9 W) => (tlen_any (hT9.kept g) : Calls Try.prog 22 #[.pointer (some ⟨p5, 0, none⟩)] W fun e w' => e = .returned (.int .i64 9) ∧ W = w'))
      have HBLK := Lib.hid (fun (W : World) (g : Kept w9 W) => (tblocks_any (hT9.kept g) : Calls Try.prog 23 #[.pointer (some ⟨p5, 0, none⟩)] W fun e w' => e = .returned (.int .i64 2) ∧ W = w'))
      have HC1 := Lib.hid (fun (W : World) (g : Kept w9 W) => (by have := tcost_any (hT9.kept g) tw_isT [107, 99] (by simp [maxLen]) 9; rw [tw_cost1] at this; exact this : Calls Try.prog 17 #[.pointer (some ⟨p5, 0, none⟩), .string ⟨#[107, 99]⟩, .int .u64 9] W fun e w' => e = .returned (.int .i64 1) ∧ Kept W w'))
      have HC2 := Lib.hid (fun (W : World) (g : Kept w9 W) => (by have := tcost_any (hT9.kept g) tw_isT [122] (by simp [maxLen]) 9; rw [tw_cost2] at this; exact this : Calls Try.prog 17 #[.pointer (some ⟨p5, 0, none⟩), .string ⟨#[122]⟩, .int .u64 9] W fun e w' => e = .returned (.int .i64 0) ∧ Kept W w'))
      have HALL := Lib.hid (fun (W : World) (g : Kept w9 W) => (by have := tall_any (hT9.kept g); rw [Tb.tv_all tw_isT] at this; exact this : Calls Try.prog 19 #[.pointer (some ⟨p5, 0, none⟩)] W fun e w' => ∃ B c, e = .returned (.slice B 9 c) ∧ Elr W.heap.size w' B c twl ∧ Kept W w'))
      have HFR := Lib.hid (fun (W : World) (g : Kept w9 W) => (by have := tfrom_any (hT9.kept g) tw_isT [107, 104] 9 (by omega) (by omega); rw [show (9 : Int).toNat = 9 from rfl, tw_from] at this; exact this : Calls Try.prog 20 #[.pointer (some ⟨p5, 0, none⟩), .string ⟨#[107, 104]⟩, .int .i64 9] W fun e w' => ∃ B c, e = .returned (.slice B 2 c) ∧ Elr W.heap.size w' B c (Tb.frm twl [107, 104] 9) ∧ Kept W w'))
      have HKF := Lib.hid (kept_trans HK.out kr9)
      generalize c0 = c1 at *
      clear hw9 k79 by9 bz9 bx9 kr9 hE9 hT9 HT7 K5 K6 K7 BX BX6 HE
      refine wp_region_held_drew (S := fun W => KT w9 W) (by kernel_rfl) ⟨kept_drewN w9 1⟩ (fun hHeld => ?_)
      -- REGION BEGIN
      refine wpAnyH_take (i := 0) (v := (.int .i64 0)) (List.getElem?_toArray.trans rfl) (by kernel_rfl) (by kernel_rfl) (by kernel_rfl) (fun _ _ _ h => h) (Or.inl ⟨by rfl, ?_⟩) (by assumption) ?_
      · intro W hSw
        first | rfl | (go_simp; done) | (go_simp; rfl)
      simp only [Act.put, List.setIfInBounds_toArray, List.set_cons_zero, List.set_cons_succ]
      refine wpAnyH_take (i := 1) (v := (.bool true)) (List.getElem?_toArray.trans rfl) (by kernel_rfl) (by kernel_rfl) (by kernel_rfl) (fun _ _ _ h => h) (Or.inl ⟨by rfl, ?_⟩) (by assumption) ?_
      · intro W hSw
        first | rfl | (go_simp; done) | (go_simp; rfl)
      simp only [Act.put, List.setIfInBounds_toArray, List.set_cons_zero, List.set_cons_succ]
      refine wpAnyH_take (i := 2) (v := (.bool true)) (List.getElem?_toArray.trans rfl) (by kernel_rfl) (by kernel_rfl) (by kernel_rfl) (fun _ _ _ h => h) (Or.inl ⟨by rfl, ?_⟩) (by assumption) ?_
      · intro W hSw
        first | rfl | (go_simp; done) | (go_simp; rfl)
      simp only [Act.put, List.setIfInBounds_toArray, List.set_cons_zero, List.set_cons_succ]
      refine wpAnyH_take (i := 3) (v := (.int .i64 0)) (List.getElem?_toArray.trans rfl) (by kernel_rfl) (by kernel_rfl) (by kernel_rfl) (fun _ _ _ h => h) (Or.inl ⟨by rfl, ?_⟩) (by assumption) ?_
      · intro W hSw
        first | rfl | (go_simp; done) | (go_simp; rfl)
      simp only [Act.put, List.setIfInBounds_toArray, List.set_cons_zero, List.set_cons_succ]
      refine wpAnyH_take (i := 4) (v := (.bool true)) (List.getElem?_toArray.trans rfl) (by kernel_rfl) (by kernel_rfl) (by kernel_rfl) (fun _ _ _ h => h) (Or.inl ⟨by rfl, ?_⟩) (by assumption) ?_
      · intro W hSw
        first | rfl | (go_simp; done) | (go_simp; rfl)
      simp only [Act.put, List.setIfInBounds_toArray, List.set_cons_zero, List.set_cons_succ]
      refine wpAnyH_take (i := 5) (v := (.bool true)) (List.getElem?_toArray.trans rfl) (by kernel_rfl) (by kernel_rfl) (by kernel_rfl) (fun _ _ _ h => h) (Or.inl ⟨by rfl, ?_⟩) (by assumption) ?_
      · intro W hSw
        first | rfl | (go_simp; done) | (go_simp; rfl)
      simp only [Act.put, List.setIfInBounds_toArray, List.set_cons_zero, List.set_cons_succ]
      refine wpAnyH_take (i := 6) (v := (.bool true)) (List.getElem?_toArray.trans rfl) (by kernel_rfl) (by kernel_rfl) (by kernel_rfl) (fun _ _ _ h => h) (Or.inl ⟨by rfl, ?_⟩) (by assumption) ?_
      · intro W hSw
        first | rfl | (go_simp; done) | (go_simp; rfl)
      simp only [Act.put, List.setIfInBounds_toArray, List.set_cons_zero, List.set_cons_succ]
      refine wpAnyH_take (i := 7) (v := (.int .i64 2)) (List.getElem?_toArray.trans rfl) (by kernel_rfl) (by kernel_rfl) (by kernel_rfl) (fun _ _ _ h => h) (Or.inl ⟨by rfl, ?_⟩) (by assumption) ?_
      · intro W hSw
        first | rfl | (go_simp; done) | (go_simp; rfl)
      simp only [Act.put, List.setIfInBounds_toArray, List.set_cons_zero, List.set_cons_succ]
      refine wpAnyH_take (i := 8) (v := (.bool true)) (List.getElem?_toArray.trans rfl) (by kernel_rfl) (by kernel_rfl) (by kernel_rfl) (fun _ _ _ h => h) (Or.inl ⟨by rfl, ?_⟩) (by assumption) ?_
      · intro W hSw
        first | rfl | (go_simp; done) | (go_simp; rfl)
      simp only [Act.put, List.setIfInBounds_toArray, List.set_cons_zero, List.set_cons_succ]
      refine wpAnyH_take (i := 9) (v := (.bool true)) (List.getElem?_toArray.trans rfl) (by kernel_rfl) (by kernel_rfl) (by kernel_rfl) (fun _ _ _ h => h) (Or.inl ⟨by rfl, ?_⟩) (by assumption) ?_
      · intro W hSw
        first | rfl | (go_simp; done) | (go_simp; rfl)
      simp only [Act.put, List.setIfInBounds_toArray, List.set_cons_zero, List.set_cons_succ]
      refine wpAnyH_take (i := 10) (v := (.bool true)) (List.getElem?_toArray.trans rfl) (by kernel_rfl) (by kernel_rfl) (by kernel_rfl) (fun _ _ _ h => h) (Or.inl ⟨by rfl, ?_⟩) (by assumption) ?_
      · intro W hSw
        first | rfl | (go_simp; done) | (go_simp; rfl)
      simp only [Act.put, List.setIfInBounds_toArray, List.set_cons_zero, List.set_cons_succ]
      refine wpAnyH_take (i := 11) (v := (.int .i64 2)) (List.getElem?_toArray.trans rfl) (by kernel_rfl) (by kernel_rfl) (by kernel_rfl) (fun _ _ _ h => h) (Or.inl ⟨by rfl, ?_⟩) (by assumption) ?_
      · intro W hSw
        first | rfl | (go_simp; done) | (go_simp; rfl)
      simp only [Act.put, List.setIfInBounds_toArray, List.set_cons_zero, List.set_cons_succ]
      refine wpAnyH_take (i := 12) (v := (.bool true)) (List.getElem?_toArray.trans rfl) (by kernel_rfl) (by kernel_rfl) (by kernel_rfl) (fun _ _ _ h => h) (Or.inl ⟨by rfl, ?_⟩) (by assumption) ?_
      · intro W hSw
        first | rfl | (go_simp; done) | (go_simp; rfl)
      simp only [Act.put, List.setIfInBounds_toArray, List.set_cons_zero, List.set_cons_succ]
      refine wpAnyH_take (i := 13) (v := (.bool true)) (List.getElem?_toArray.trans rfl) (by kernel_rfl) (by kernel_rfl) (by kernel_rfl) (fun _ _ _ h => h) (Or.inl ⟨by rfl, ?_⟩) (by assumption) ?_
      · intro W hSw
        first | rfl | (go_simp; done) | (go_simp; rfl)
      simp only [Act.put, List.setIfInBounds_toArray, List.set_cons_zero, List.set_cons_succ]
      refine wpAnyH_take (i := 14) (v := (.bool true)) (List.getElem?_toArray.trans rfl) (by kernel_rfl) (by kernel_rfl) (by kernel_rfl) (fun _ _ _ h => h) (Or.inl ⟨by rfl, ?_⟩) (by assumption) ?_
      · intro W hSw
        first | rfl | (go_simp; done) | (go_simp; rfl)
      simp only [Act.put, List.setIfInBounds_toArray, List.set_cons_zero, List.set_cons_succ]
      refine wpAnyH_take (i := 15) (v := (.agg #[.string (bs (twe 2).key), .int .u64 ((twe 2).seq : Nat), .bool (twe 2).del, .string (bs (twe 2).val)])) (List.getElem?_toArray.trans rfl) (by kernel_rfl) (by kernel_rfl) (by kernel_rfl) (fun _ _ _ h => h) (Or.inl ⟨by rfl, ?_⟩) (by assumption) ?_
      · intro W hSw
        obtain ⟨q0, q1, q2, q3⟩ := HX.out W hSw.k
        first | (go_simp; done) | (go_simp; rfl)
      simp only [Act.put, List.setIfInBounds_toArray, List.set_cons_zero, List.set_cons_succ]
      refine wpAnyH_take (i := 16) (v := (.slice (some ⟨b1, 0, none⟩) 9 c1)) (List.getElem?_toArray.trans rfl) (by kernel_rfl) (by kernel_rfl) (by kernel_rfl) (fun _ _ _ h => h) (Or.inl ⟨by rfl, ?_⟩) (by assumption) ?_
      · intro W hSw
        first | rfl | (go_simp; done) | (go_simp; rfl)
      simp only [Act.put, List.setIfInBounds_toArray, List.set_cons_zero, List.set_cons_succ]
      refine wpAnyH_take (i := 17) (v := (.pointer (some ⟨b1, 8, none⟩))) (List.getElem?_toArray.trans rfl) (by kernel_rfl) (by kernel_rfl) (by kernel_rfl) (fun _ _ _ h => h) (Or.inl ⟨by rfl, ?_⟩) (by assumption) ?_
      · intro W hSw
        first | rfl | (go_simp; done) | (go_simp; rfl)
      simp only [Act.put, List.setIfInBounds_toArray, List.set_cons_zero, List.set_cons_succ]
      refine wpAnyH_take (i := 18) (v := (.agg #[.string (bs (twe 2).key), .int .u64 ((twe 2).seq : Nat), .bool (twe 2).del, .string (bs (twe 2).val)])) (List.getElem?_toArray.trans rfl) (by kernel_rfl) (by kernel_rfl) (by kernel_rfl) (fun _ _ _ h => h) (Or.inl ⟨by rfl, ?_⟩) (by assumption) ?_
      · intro W hSw
        obtain ⟨q0, q1, q2, q3⟩ := HL2.out W hSw.k
        first | (go_simp; done) | (go_simp; rfl)
      simp only [Act.put, List.setIfInBounds_toArray, List.set_cons_zero, List.set_cons_succ]
      refine wpAnyH_take (i := 19) (v := (.bool true)) (List.getElem?_toArray.trans rfl) (by kernel_rfl) (by kernel_rfl) (by kernel_rfl) (fun _ _ _ h => h) (Or.inl ⟨by rfl, ?_⟩) (by assumption) ?_
      · intro W hSw
        first | rfl | (go_simp; done) | (go_simp; rfl)
      simp only [Act.put, List.setIfInBounds_toArray, List.set_cons_zero, List.set_cons_succ]
      refine wpAnyH_take (i := 20) (v := (.bool true)) (List.getElem?_toArray.trans rfl) (by kernel_rfl) (by kernel_rfl) (by kernel_rfl) (fun _ _ _ h => h) (Or.inl ⟨by rfl, ?_⟩) (by assumption) ?_
      · intro W hSw
        first | rfl | (go_simp; done) | (go_simp; rfl)
      simp only [Act.put, List.setIfInBounds_toArray, List.set_cons_zero, List.set_cons_succ]
      refine wpAnyH_take (i := 21) (v := (.bool true)) (List.getElem?_toArray.trans rfl) (by kernel_rfl) (by kernel_rfl) (by kernel_rfl) (fun _ _ _ h => h) (Or.inl ⟨by rfl, ?_⟩) (by assumption) ?_
      · intro W hSw
        first | rfl | (go_simp; done) | (go_simp; rfl)
      simp only [Act.put, List.setIfInBounds_toArray, List.set_cons_zero, List.set_cons_succ]
      refine wpAnyH_take (i := 22) (v := (.bool true)) (List.getElem?_toArray.trans rfl) (by kernel_rfl) (by kernel_rfl) (by kernel_rfl) (fun _ _ _ h => h) (Or.inl ⟨by rfl, ?_⟩) (by assumption) ?_
      · intro W hSw
        first | rfl | (go_simp; done) | (go_simp; rfl)
      simp only [Act.put, List.setIfInBounds_toArray, List.set_cons_zero, List.set_cons_succ]
      refine wpAnyH_take (i := 23) (v := (.bool true)) (List.getElem?_toArray.trans rfl) (by kernel_rfl) (by kernel_rfl) (by kernel_rfl) (fun _ _ _ h => h) (Or.inl ⟨by rfl, ?_⟩) (by assumption) ?_
      · intro W hSw
        first | rfl | (go_simp; done) | (go_simp; rfl)
      simp only [Act.put, List.setIfInBounds_toArray, List.set_cons_zero, List.set_cons_succ]
      refine wpAnyH_take (i := 24) (v := (.bool true)) (List.getElem?_toArray.trans rfl) (by kernel_rfl) (by kernel_rfl) (by kernel_rfl) (fun _ _ _ h => h) (Or.inl ⟨by rfl, ?_⟩) (by assumption) ?_
      · intro W hSw
        first | rfl | (go_simp; done) | (go_simp; rfl)
      simp only [Act.put, List.setIfInBounds_toArray, List.set_cons_zero, List.set_cons_succ]
      refine wpAnyH_take (i := 25) (v := (.bool false)) (List.getElem?_toArray.trans rfl) (by kernel_rfl) (by kernel_rfl) (by kernel_rfl) (fun _ _ _ h => h) (Or.inl ⟨by rfl, ?_⟩) (by assumption) ?_
      · intro W hSw
        first | rfl | (go_simp; done) | (go_simp; rfl)
      simp only [Act.put, List.setIfInBounds_toArray, List.set_cons_zero, List.set_cons_succ]
      refine wpAnyH_take (i := 26) (v := (.bool true)) (List.getElem?_toArray.trans rfl) (by kernel_rfl) (by kernel_rfl) (by kernel_rfl) (fun _ _ _ h => h) (Or.inl ⟨by rfl, ?_⟩) (by assumption) ?_
      · intro W hSw
        first | rfl | (go_simp; done) | (go_simp; rfl)
      simp only [Act.put, List.setIfInBounds_toArray, List.set_cons_zero, List.set_cons_succ]
      refine wpAnyH_take (i := 27) (v := (.bool true)) (List.getElem?_toArray.trans rfl) (by kernel_rfl) (by kernel_rfl) (by kernel_rfl) (fun _ _ _ h => h) (Or.inl ⟨by rfl, ?_⟩) (by assumption) ?_
      · intro W hSw
        first | rfl | (go_simp; done) | (go_simp; rfl)
      simp only [Act.put, List.setIfInBounds_toArray, List.set_cons_zero, List.set_cons_succ]
      refine wpAnyH_take (i := 28) (v := (.bool true)) (List.getElem?_toArray.trans rfl) (by kernel_rfl) (by kernel_rfl) (by kernel_rfl) (fun _ _ _ h => h) (Or.inl ⟨by rfl, ?_⟩) (by assumption) ?_
      · intro W hSw
        first | rfl | (go_simp; done) | (go_simp; rfl)
      simp only [Act.put, List.setIfInBounds_toArray, List.set_cons_zero, List.set_cons_succ]
      refine wpAnyH_take (i := 29) (v := (.agg #[.string (bs (twe 0).key), .int .u64 ((twe 0).seq : Nat), .bool (twe 0).del, .string (bs (twe 0).val)])) (List.getElem?_toArray.trans rfl) (by kernel_rfl) (by kernel_rfl) (by kernel_rfl) (fun _ _ _ h => h) (Or.inl ⟨by rfl, ?_⟩) (by assumption) ?_
      · intro W hSw
        obtain ⟨q0, q1, q2, q3⟩ := HY.out W hSw.k
        first | (go_simp; done) | (go_simp; rfl)
      simp only [Act.put, List.setIfInBounds_toArray, List.set_cons_zero, List.set_cons_succ]
      refine wpAnyH_take (i := 30) (v := (.slice (some ⟨b1, 0, none⟩) 9 c1)) (List.getElem?_toArray.trans rfl) (by kernel_rfl) (by kernel_rfl) (by kernel_rfl) (fun _ _ _ h => h) (Or.inl ⟨by rfl, ?_⟩) (by assumption) ?_
      · intro W hSw
        first | rfl | (go_simp; done) | (go_simp; rfl)
      simp only [Act.put, List.setIfInBounds_toArray, List.set_cons_zero, List.set_cons_succ]
      refine wpAnyH_take (i := 31) (v := (.pointer (some ⟨b1, 0, none⟩))) (List.getElem?_toArray.trans rfl) (by kernel_rfl) (by kernel_rfl) (by kernel_rfl) (fun _ _ _ h => h) (Or.inl ⟨by rfl, ?_⟩) (by assumption) ?_
      · intro W hSw
        first | rfl | (go_simp; done) | (go_simp; rfl)
      simp only [Act.put, List.setIfInBounds_toArray, List.set_cons_zero, List.set_cons_succ]
      refine wpAnyH_take (i := 32) (v := (.agg #[.string (bs (twe 0).key), .int .u64 ((twe 0).seq : Nat), .bool (twe 0).del, .string (bs (twe 0).val)])) (List.getElem?_toArray.trans rfl) (by kernel_rfl) (by kernel_rfl) (by kernel_rfl) (fun _ _ _ h => h) (Or.inl ⟨by rfl, ?_⟩) (by assumption) ?_
      · intro W hSw
        obtain ⟨q0, q1, q2, q3⟩ := HL0.out W hSw.k
        first | (go_simp; done) | (go_simp; rfl)
      simp only [Act.put, List.setIfInBounds_toArray, List.set_cons_zero, List.set_cons_succ]
      refine wpAnyH_take (i := 33) (v := (.bool true)) (List.getElem?_toArray.trans rfl) (by kernel_rfl) (by kernel_rfl) (by kernel_rfl) (fun _ _ _ h => h) (Or.inl ⟨by rfl, ?_⟩) (by assumption) ?_
      · intro W hSw
        first | rfl | (go_simp; done) | (go_simp; rfl)
      simp only [Act.put, List.setIfInBounds_toArray, List.set_cons_zero, List.set_cons_succ]
      refine wpAnyH_take (i := 34) (v := (.bool true)) (List.getElem?_toArray.trans rfl) (by kernel_rfl) (by kernel_rfl) (by kernel_rfl) (fun _ _ _ h => h) (Or.inl ⟨by rfl, ?_⟩) (by assumption) ?_
      · intro W hSw
        first | rfl | (go_simp; done) | (go_simp; rfl)
      simp only [Act.put, List.setIfInBounds_toArray, List.set_cons_zero, List.set_cons_succ]
      refine wpAnyH_take (i := 35) (v := (.bool true)) (List.getElem?_toArray.trans rfl) (by kernel_rfl) (by kernel_rfl) (by kernel_rfl) (fun _ _ _ h => h) (Or.inl ⟨by rfl, ?_⟩) (by assumption) ?_
      · intro W hSw
        first | rfl | (go_simp; done) | (go_simp; rfl)
      simp only [Act.put, List.setIfInBounds_toArray, List.set_cons_zero, List.set_cons_succ]
      refine wpAnyH_take (i := 36) (v := (.agg #[.string (bs (twe 8).key), .int .u64 ((twe 8).seq : Nat), .bool (twe 8).del, .string (bs (twe 8).val)])) (List.getElem?_toArray.trans rfl) (by kernel_rfl) (by kernel_rfl) (by kernel_rfl) (fun _ _ _ h => h) (Or.inl ⟨by rfl, ?_⟩) (by assumption) ?_
      · intro W hSw
        obtain ⟨q0, q1, q2, q3⟩ := HZ.out W hSw.k
        first | (go_simp; done) | (go_simp; rfl)
      simp only [Act.put, List.setIfInBounds_toArray, List.set_cons_zero, List.set_cons_succ]
      refine wpAnyH_take (i := 37) (v := (.slice (some ⟨b1, 0, none⟩) 9 c1)) (List.getElem?_toArray.trans rfl) (by kernel_rfl) (by kernel_rfl) (by kernel_rfl) (fun _ _ _ h => h) (Or.inl ⟨by rfl, ?_⟩) (by assumption) ?_
      · intro W hSw
        first | rfl | (go_simp; done) | (go_simp; rfl)
      simp only [Act.put, List.setIfInBounds_toArray, List.set_cons_zero, List.set_cons_succ]
      refine wpAnyH_take (i := 38) (v := (.pointer (some ⟨b1, 32, none⟩))) (List.getElem?_toArray.trans rfl) (by kernel_rfl) (by kernel_rfl) (by kernel_rfl) (fun _ _ _ h => h) (Or.inl ⟨by rfl, ?_⟩) (by assumption) ?_
      · intro W hSw
        first | rfl | (go_simp; done) | (go_simp; rfl)
      simp only [Act.put, List.setIfInBounds_toArray, List.set_cons_zero, List.set_cons_succ]
      refine wpAnyH_take (i := 39) (v := (.agg #[.string (bs (twe 8).key), .int .u64 ((twe 8).seq : Nat), .bool (twe 8).del, .string (bs (twe 8).val)])) (List.getElem?_toArray.trans rfl) (by kernel_rfl) (by kernel_rfl) (by kernel_rfl) (fun _ _ _ h => h) (Or.inl ⟨by rfl, ?_⟩) (by assumption) ?_
      · intro W hSw
        obtain ⟨q0, q1, q2, q3⟩ := HL8.out W hSw.k
        first | (go_simp; done) | (go_simp; rfl)
      simp only [Act.put, List.setIfInBounds_toArray, List.set_cons_zero, List.set_cons_succ]
      refine wpAnyH_take (i := 40) (v := (.bool true)) (List.getElem?_toArray.trans rfl) (by kernel_rfl) (by kernel_rfl) (by kernel_rfl) (fun _ _ _ h => h) (Or.inl ⟨by rfl, ?_⟩) (by assumption) ?_
      · intro W hSw
        first | rfl | (go_simp; done) | (go_simp; rfl)
      simp only [Act.put, List.setIfInBounds_toArray, List.set_cons_zero, List.set_cons_succ]
      refine wpAnyH_take (i := 41) (v := (.bool true)) (List.getElem?_toArray.trans rfl) (by kernel_rfl) (by kernel_rfl) (by kernel_rfl) (fun _ _ _ h => h) (Or.inl ⟨by rfl, ?_⟩) (by assumption) ?_
      · intro W hSw
        first | rfl | (go_simp; done) | (go_simp; rfl)
      simp only [Act.put, List.setIfInBounds_toArray, List.set_cons_zero, List.set_cons_succ]
      refine wpAnyH_take (i := 42) (v := (.bool true)) (List.getElem?_toArray.trans rfl) (by kernel_rfl) (by kernel_rfl) (by kernel_rfl) (fun _ _ _ h => h) (Or.inl ⟨by rfl, ?_⟩) (by assumption) ?_
      · intro W hSw
        first | rfl | (go_simp; done) | (go_simp; rfl)
      simp only [Act.put, List.setIfInBounds_toArray, List.set_cons_zero, List.set_cons_succ]
      refine wpAnyH_take (i := 43) (v := (.pointer (some ⟨p5, 0, none⟩))) (List.getElem?_toArray.trans rfl) (by kernel_rfl) (by kernel_rfl) (by kernel_rfl) (fun _ _ _ h => h) (Or.inl ⟨by rfl, ?_⟩) (by assumption) ?_
      · intro W hSw
        first | rfl | (go_simp; done) | (go_simp; rfl)
      simp only [Act.put, List.setIfInBounds_toArray, List.set_cons_zero, List.set_cons_succ]
      refine wpAnyH_ready (rs := [44]) (by kernel_rfl) (by simp) ?_
      refine AllReadyH.cons (List.getElem?_toArray.trans rfl) (fun K hK => ?_) AllReadyH.nil
      go_simp
      refine (HLEN.out _ hHeld.k).mono ?_
      rintro e w20 ⟨rfl, rfl⟩
      go_wp2_with fail
      refine hK.out _ _ (by assumption) (fun hHeld => ?_)
      clear hK K
      refine wpAnyH_take (i := 45) (v := (.bool true)) (List.getElem?_toArray.trans rfl) (by kernel_rfl) (by kernel_rfl) (by kernel_rfl) (fun _ _ _ h => h) (Or.inl ⟨by rfl, ?_⟩) (by assumption) ?_
      · intro W hSw
        first | rfl | (go_simp; done) | (go_simp; rfl)
      simp only [Act.put, List.setIfInBounds_toArray, List.set_cons_zero, List.set_cons_succ]
      refine wpAnyH_take (i := 46) (v := (.bool true)) (List.getElem?_toArray.trans rfl) (by kernel_rfl) (by kernel_rfl) (by kernel_rfl) (fun _ _ _ h => h) (Or.inl ⟨by rfl, ?_⟩) (by assumption) ?_
      · intro W hSw
        first | rfl | (go_simp; done) | (go_simp; rfl)
      simp only [Act.put, List.setIfInBounds_toArray, List.set_cons_zero, List.set_cons_succ]
      refine wpAnyH_take (i := 47) (v := (.bool true)) (List.getElem?_toArray.trans rfl) (by kernel_rfl) (by kernel_rfl) (by kernel_rfl) (fun _ _ _ h => h) (Or.inl ⟨by rfl, ?_⟩) (by assumption) ?_
      · intro W hSw
        first | rfl | (go_simp; done) | (go_simp; rfl)
      simp only [Act.put, List.setIfInBounds_toArray, List.set_cons_zero, List.set_cons_succ]
      refine wpAnyH_take (i := 48) (v := (.pointer (some ⟨p5, 0, none⟩))) (List.getElem?_toArray.trans rfl) (by kernel_rfl) (by kernel_rfl) (by kernel_rfl) (fun _ _ _ h => h) (Or.inl ⟨by rfl, ?_⟩) (by assumption) ?_
      · intro W hSw
        first | rfl | (go_simp; done) | (go_simp; rfl)
      simp only [Act.put, List.setIfInBounds_toArray, List.set_cons_zero, List.set_cons_succ]
      refine wpAnyH_ready (rs := [49]) (by kernel_rfl) (by simp) ?_
      refine AllReadyH.cons (List.getElem?_toArray.trans rfl) (fun K hK => ?_) AllReadyH.nil
      go_simp
      refine (HBLK.out _ hHeld.k).mono ?_
      rintro e w21 ⟨rfl, rfl⟩
      go_wp2_with fail
      refine hK.out _ _ (by assumption) (fun hHeld => ?_)
      clear hK K
      refine wpAnyH_take (i := 50) (v := (.bool true)) (List.getElem?_toArray.trans rfl) (by kernel_rfl) (by kernel_rfl) (by kernel_rfl) (fun _ _ _ h => h) (Or.inl ⟨by rfl, ?_⟩) (by assumption) ?_
      · intro W hSw
        first | rfl | (go_simp; done) | (go_simp; rfl)
      simp only [Act.put, List.setIfInBounds_toArray, List.set_cons_zero, List.set_cons_succ]
      refine wpAnyH_take (i := 51) (v := (.bool true)) (List.getElem?_toArray.trans rfl) (by kernel_rfl) (by kernel_rfl) (by kernel_rfl) (fun _ _ _ h => h) (Or.inl ⟨by rfl, ?_⟩) (by assumption) ?_
      · intro W hSw
        first | rfl | (go_simp; done) | (go_simp; rfl)
      simp only [Act.put, List.setIfInBounds_toArray, List.set_cons_zero, List.set_cons_succ]
      refine wpAnyH_take (i := 52) (v := (.bool true)) (List.getElem?_toArray.trans rfl) (by kernel_rfl) (by kernel_rfl) (by kernel_rfl) (fun _ _ _ h => h) (Or.inl ⟨by rfl, ?_⟩) (by assumption) ?_
      · intro W hSw
        first | rfl | (go_simp; done) | (go_simp; rfl)
      simp only [Act.put, List.setIfInBounds_toArray, List.set_cons_zero, List.set_cons_succ]
      refine wpAnyH_take (i := 53) (v := (.pointer (some ⟨p5, 0, none⟩))) (List.getElem?_toArray.trans rfl) (by kernel_rfl) (by kernel_rfl) (by kernel_rfl) (fun _ _ _ h => h) (Or.inl ⟨by rfl, ?_⟩) (by assumption) ?_
      · intro W hSw
        first | rfl | (go_simp; done) | (go_simp; rfl)
      simp only [Act.put, List.setIfInBounds_toArray, List.set_cons_zero, List.set_cons_succ]
      refine wpAnyH_ready (rs := [54]) (by kernel_rfl) (by simp) ?_
      refine AllReadyH.cons (List.getElem?_toArray.trans rfl) (fun K hK => ?_) AllReadyH.nil
      go_simp
      refine (HC1.out _ hHeld.k).mono ?_
      rintro e w22 ⟨rfl, g22⟩
      go_wp2_with fail
      refine hK.out _ _ ⟨kept_trans hHeld.k g22⟩ (fun hHeld => ?_)
      clear hK K
      refine wpAnyH_take (i := 55) (v := (.bool true)) (List.getElem?_toArray.trans rfl) (by kernel_rfl) (by kernel_rfl) (by kernel_rfl) (fun _ _ _ h => h) (Or.inl ⟨by rfl, ?_⟩) (by assumption) ?_
      · intro W hSw
        first | rfl | (go_simp; done) | (go_simp; rfl)
      simp only [Act.put, List.setIfInBounds_toArray, List.set_cons_zero, List.set_cons_succ]
      refine wpAnyH_take (i := 56) (v := (.bool true)) (List.getElem?_toArray.trans rfl) (by kernel_rfl) (by kernel_rfl) (by kernel_rfl) (fun _ _ _ h => h) (Or.inl ⟨by rfl, ?_⟩) (by assumption) ?_
      · intro W hSw
        first | rfl | (go_simp; done) | (go_simp; rfl)
      simp only [Act.put, List.setIfInBounds_toArray, List.set_cons_zero, List.set_cons_succ]
      refine wpAnyH_take (i := 57) (v := (.bool true)) (List.getElem?_toArray.trans rfl) (by kernel_rfl) (by kernel_rfl) (by kernel_rfl) (fun _ _ _ h => h) (Or.inl ⟨by rfl, ?_⟩) (by assumption) ?_
      · intro W hSw
        first | rfl | (go_simp; done) | (go_simp; rfl)
      simp only [Act.put, List.setIfInBounds_toArray, List.set_cons_zero, List.set_cons_succ]
      refine wpAnyH_take (i := 58) (v := (.pointer (some ⟨p5, 0, none⟩))) (List.getElem?_toArray.trans rfl) (by kernel_rfl) (by kernel_rfl) (by kernel_rfl) (fun _ _ _ h => h) (Or.inl ⟨by rfl, ?_⟩) (by assumption) ?_
      · intro W hSw
        first | rfl | (go_simp; done) | (go_simp; rfl)
      simp only [Act.put, List.setIfInBounds_toArray, List.set_cons_zero, List.set_cons_succ]
      refine wpAnyH_ready (rs := [59]) (by kernel_rfl) (by simp) ?_
      refine AllReadyH.cons (List.getElem?_toArray.trans rfl) (fun K hK => ?_) AllReadyH.nil
      go_simp
      refine (HC2.out _ hHeld.k).mono ?_
      rintro e w23 ⟨rfl, g23⟩
      go_wp2_with fail
      refine hK.out _ _ ⟨kept_trans hHeld.k g23⟩ (fun hHeld => ?_)
      clear hK K
      refine wpAnyH_take (i := 60) (v := (.bool true)) (List.getElem?_toArray.trans rfl) (by kernel_rfl) (by kernel_rfl) (by kernel_rfl) (fun _ _ _ h => h) (Or.inl ⟨by rfl, ?_⟩) (by assumption) ?_
      · intro W hSw
        first | rfl | (go_simp; done) | (go_simp; rfl)
      simp only [Act.put, List.setIfInBounds_toArray, List.set_cons_zero, List.set_cons_succ]
      refine wpAnyH_take (i := 61) (v := (.bool true)) (List.getElem?_toArray.trans rfl) (by kernel_rfl) (by kernel_rfl) (by kernel_rfl) (fun _ _ _ h => h) (Or.inl ⟨by rfl, ?_⟩) (by assumption) ?_
      · intro W hSw
        first | rfl | (go_simp; done) | (go_simp; rfl)
      simp only [Act.put, List.setIfInBounds_toArray, List.set_cons_zero, List.set_cons_succ]
      refine wpAnyH_take (i := 62) (v := (.bool true)) (List.getElem?_toArray.trans rfl) (by kernel_rfl) (by kernel_rfl) (by kernel_rfl) (fun _ _ _ h => h) (Or.inl ⟨by rfl, ?_⟩) (by assumption) ?_
      · intro W hSw
        first | rfl | (go_simp; done) | (go_simp; rfl)
      simp only [Act.put, List.setIfInBounds_toArray, List.set_cons_zero, List.set_cons_succ]
      refine wpAnyH_take (i := 63) (v := (.pointer (some ⟨p5, 0, none⟩))) (List.getElem?_toArray.trans rfl) (by kernel_rfl) (by kernel_rfl) (by kernel_rfl) (fun _ _ _ h => h) (Or.inl ⟨by rfl, ?_⟩) (by assumption) ?_
      · intro W hSw
        first | rfl | (go_simp; done) | (go_simp; rfl)
      simp only [Act.put, List.setIfInBounds_toArray, List.set_cons_zero, List.set_cons_succ]
      refine wpAnyH_take (i := 65) (v := (.slice (some ⟨b1, 0, none⟩) 9 c1)) (List.getElem?_toArray.trans rfl) (by kernel_rfl) (by kernel_rfl) (by kernel_rfl) (fun _ _ _ h => h) (Or.inl ⟨by rfl, ?_⟩) (by assumption) ?_
      · intro W hSw
        first | rfl | (go_simp; done) | (go_simp; rfl)
      simp only [Act.put, List.setIfInBounds_toArray, List.set_cons_zero, List.set_cons_succ]
      refine wpAnyH_ready (rs := [64]) (by kernel_rfl) (by simp) ?_
      refine AllReadyH.cons (List.getElem?_toArray.trans rfl) (fun K hK => ?_) AllReadyH.nil
      go_simp
      refine (HALL.out _ hHeld.k).mono ?_
      rintro e w24 ⟨B24, c24, rfl, hel24, g24⟩
      have HE24 := Lib.hid hel24.els
      have HK24 := Lib.hid (kept_trans hHeld.k g24)
      clear hel24
      go_wp2_with fail
      refine hK.out _ _ ⟨kept_trans hHeld.k g24⟩ (fun hHeld => ?_)
      clear hK K
      refine wpAnyH_ready (rs := [66]) (by kernel_rfl) (by simp) ?_
      refine AllReadyH.cons (List.getElem?_toArray.trans rfl) (fun K hK => ?_) AllReadyH.nil
      go_simp
      refine (tw_same c24 c1 HE24.out (HEL.out _ HK24.out)).mono ?_
      rintro e w25 ⟨rfl, g25⟩
      go_wp2_with fail
      refine hK.out _ _ ⟨kept_trans HK24.out g25⟩ (fun hHeld => ?_)
      clear hK K
      refine wpAnyH_take (i := 67) (v := (.bool true)) (List.getElem?_toArray.trans rfl) (by kernel_rfl) (by kernel_rfl) (by kernel_rfl) (fun _ _ _ h => h) (Or.inl ⟨by rfl, ?_⟩) (by assumption) ?_
      · intro W hSw
        first | rfl | (go_simp; done) | (go_simp; rfl)
      simp only [Act.put, List.setIfInBounds_toArray, List.set_cons_zero, List.set_cons_succ]
      refine wpAnyH_take (i := 68) (v := (.bool true)) (List.getElem?_toArray.trans rfl) (by kernel_rfl) (by kernel_rfl) (by kernel_rfl) (fun _ _ _ h => h) (Or.inl ⟨by rfl, ?_⟩) (by assumption) ?_
      · intro W hSw
        first | rfl | (go_simp; done) | (go_simp; rfl)
      simp only [Act.put, List.setIfInBounds_toArray, List.set_cons_zero, List.set_cons_succ]
      refine wpAnyH_take (i := 69) (v := (.pointer (some ⟨p5, 0, none⟩))) (List.getElem?_toArray.trans rfl) (by kernel_rfl) (by kernel_rfl) (by kernel_rfl) (fun _ _ _ h => h) (Or.inl ⟨by rfl, ?_⟩) (by assumption) ?_
      · intro W hSw
        first | rfl | (go_simp; done) | (go_simp; rfl)
      simp only [Act.put, List.setIfInBounds_toArray, List.set_cons_zero, List.set_cons_succ]
      refine wpAnyH_ready (rs := [70]) (by kernel_rfl) (by simp) ?_
      refine AllReadyH.cons (List.getElem?_toArray.trans rfl) (fun K hK => ?_) AllReadyH.nil
      go_simp
      refine (HFR.out _ hHeld.k).mono ?_
      rintro e w26 ⟨B26, c26, rfl, hel26, g26⟩
      clear hel26
      go_wp2_with fail
      refine hK.out _ _ ⟨kept_trans hHeld.k g26⟩ (fun hHeld => ?_)
      clear hK K
      refine wpAnyH_take (i := 71) (v := (.int .i64 2)) (List.getElem?_toArray.trans rfl) (by kernel_rfl) (by kernel_rfl) (by kernel_rfl) (fun _ _ _ h => h) (Or.inl ⟨by rfl, ?_⟩) (by assumption) ?_
      · intro W hSw
        first | rfl | (go_simp; done) | (go_simp; rfl)
      simp only [Act.put, List.setIfInBounds_toArray, List.set_cons_zero, List.set_cons_succ]
      refine wpAnyH_take (i := 72) (v := (.bool true)) (List.getElem?_toArray.trans rfl) (by kernel_rfl) (by kernel_rfl) (by kernel_rfl) (fun _ _ _ h => h) (Or.inl ⟨by rfl, ?_⟩) (by assumption) ?_
      · intro W hSw
        first | rfl | (go_simp; done) | (go_simp; rfl)
      simp only [Act.put, List.setIfInBounds_toArray, List.set_cons_zero, List.set_cons_succ]
      refine wpAnyH_take (i := 73) (v := (.bool true)) (List.getElem?_toArray.trans rfl) (by kernel_rfl) (by kernel_rfl) (by kernel_rfl) (fun _ _ _ h => h) (Or.inl ⟨by rfl, ?_⟩) (by assumption) ?_
      · intro W hSw
        first | rfl | (go_simp; done) | (go_simp; rfl)
      simp only [Act.put, List.setIfInBounds_toArray, List.set_cons_zero, List.set_cons_succ]
      refine wpAnyH_take (i := 74) (v := (.bool true)) (List.getElem?_toArray.trans rfl) (by kernel_rfl) (by kernel_rfl) (by kernel_rfl) (fun _ _ _ h => h) (Or.inl ⟨by rfl, ?_⟩) (by assumption) ?_
      · intro W hSw
        first | rfl | (go_simp; done) | (go_simp; rfl)
      simp only [Act.put, List.setIfInBounds_toArray, List.set_cons_zero, List.set_cons_succ]
      refine wpAnyH_take (i := 75) (v := (.string ES)) (List.getElem?_toArray.trans rfl) (by kernel_rfl) (by kernel_rfl) (by kernel_rfl) (fun _ _ _ h => h) (Or.inl ⟨by rfl, ?_⟩) (by assumption) ?_
      · intro W hSw
        first | rfl | (go_simp; done) | (go_simp; rfl)
      simp only [Act.put, List.setIfInBounds_toArray, List.set_cons_zero, List.set_cons_succ]
      refine wpAnyH_take (i := 76) (v := (.string ES)) (List.getElem?_toArray.trans rfl) (by kernel_rfl) (by kernel_rfl) (by kernel_rfl) (fun _ _ _ h => h) (Or.inl ⟨by rfl, ?_⟩) (by assumption) ?_
      · intro W hSw
        first | rfl | (go_simp; done) | (go_simp; rfl)
      simp only [Act.put, List.setIfInBounds_toArray, List.set_cons_zero, List.set_cons_succ]
      refine wpAnyH_take (i := 77) (v := (.int .i64 (ES.size : Nat))) (List.getElem?_toArray.trans rfl) (by kernel_rfl) (by kernel_rfl) (by kernel_rfl) (fun _ _ _ h => h) (Or.inl ⟨by rfl, ?_⟩) (by assumption) ?_
      · intro W hSw
        first | rfl | (go_simp; done) | (go_simp; rfl)
      simp only [Act.put, List.setIfInBounds_toArray, List.set_cons_zero, List.set_cons_succ]
      refine wpAnyH_take (i := 78) (v := (.int .i64 (mm : Nat))) (List.getElem?_toArray.trans rfl) (by kernel_rfl) (by kernel_rfl) (by kernel_rfl) (fun _ _ _ h => h) (Or.inl ⟨by rfl, ?_⟩) (by assumption) ?_
      · intro W hSw
        first | rfl | (go_simp; done) | (go_simp; rfl)
      simp only [Act.put, List.setIfInBounds_toArray, List.set_cons_zero, List.set_cons_succ]
      refine wpAnyH_take (i := 79) (v := (.string (ES.extract mm ES.size))) (List.getElem?_toArray.trans rfl) (by kernel_rfl) (by kernel_rfl) (by kernel_rfl) (fun _ _ _ h => h) (Or.inl ⟨by rfl, ?_⟩) (by assumption) ?_
      · intro W hSw
        first | rfl | (go_simp; done) | (go_simp; rfl)
      simp only [Act.put, List.setIfInBounds_toArray, List.set_cons_zero, List.set_cons_succ]
      refine wpAnyH_take (i := 80) (v := (.bool true)) (List.getElem?_toArray.trans rfl) (by kernel_rfl) (by kernel_rfl) (by kernel_rfl) (fun _ _ _ h => h) (Or.inl ⟨by rfl, ?_⟩) (by assumption) ?_
      · intro W hSw
        first | rfl | (go_simp; done) | (go_simp; rfl)
      simp only [Act.put, List.setIfInBounds_toArray, List.set_cons_zero, List.set_cons_succ]
      refine wpAnyH_take (i := 81) (v := (.bool true)) (List.getElem?_toArray.trans rfl) (by kernel_rfl) (by kernel_rfl) (by kernel_rfl) (fun _ _ _ h => h) (Or.inl ⟨by rfl, ?_⟩) (by assumption) ?_
      · intro W hSw
        first | rfl | (go_simp; done) | (go_simp; rfl)
      simp only [Act.put, List.setIfInBounds_toArray, List.set_cons_zero, List.set_cons_succ]
      refine wpAnyH_take (i := 82) (v := (.bool true)) (List.getElem?_toArray.trans rfl) (by kernel_rfl) (by kernel_rfl) (by kernel_rfl) (fun _ _ _ h => h) (Or.inl ⟨by rfl, ?_⟩) (by assumption) ?_
      · intro W hSw
        first | rfl | (go_simp; done) | (go_simp; rfl)
      simp only [Act.put, List.setIfInBounds_toArray, List.set_cons_zero]
      refine wpAnyH_done (by kernel_rfl) ?_ _
      go_wp2_with fail
      go_ret
      exact ⟨rfl, kept_trans HKF.out hHeld.k⟩
      -- REGION END
end Go.Proofs.Ytecjnebfhbdnaaa
