/-
  Decode and Seek of package block.
-/
import Derived.Test.YtecjnebfhbdnaaaBlockEnc
import Derived.Test.YtecjnebfhbdnaaaBlockRead
import Derived.Test.YtecjnebfhbdnaaaMergeEs
namespace Go.Proofs.Ytecjnebfhbdnaaa
open Go.ChangeShapes Go.WideShapes Go.ChangeAt Go.RowKit
set_option linter.unusedVariables false
set_option maxRecDepth 100000
set_option maxHeartbeats 2000000

theorem Rdr.grown {w w' : World} {p : Nat} {R A : List UInt8} {row : Option Nat} (h : Rdr w p R A) (hg : w.grownBy w' row) (hr : ∀ k, row = some k → p ≠ k) : Rdr w' p R A :=
  (hg.block p h.lt (fun e => hr p e.symm rfl)).trans h
/-- what Decode tells -/
def KDec (w : World) (O : Option (List Mm.Ent)) (e : Ending) (w' : World) : Prop :=
  (∃ l B c, O = some l ∧ e = .returned (.tuple #[.slice B l.length c, .int .i64 0]) ∧ Elr w.heap.size w' B c l ∧ Kept w w') ∨ (O = none ∧ e = .returned (.tuple #[.slice none 0 0, .int .i64 2]) ∧ Kept w w')
theorem elc_snoc (L : List Mm.Ent) (x : Mm.Ent) : elc (L ++ [x]) = elc L ++ ecs x := by rw [elc_app]; simp [elc]
theorem read_ok (s : List UInt8) : (Bk.read s).length ≤ 32 ∧ OkEl (Bk.read s) := by
  have hc := Bk.count_le s
  unfold Bk.read
  refine ⟨by rw [Bk.rd_len]; exact hc, fun x hx => ?_⟩
  have := Bk.mem_rd _ _ _ x hx
  simp only [List.length_nil] at this
  unfold maxLen
  omega
theorem dec_ways (s : List UInt8) : (Bk.dec s = some (Bk.read s) ∧ Bk.isB (Bk.read s) = true ∧ Bk.enc (Bk.read s) = s) ∨ (Bk.dec s = none ∧ Bk.isB (Bk.read s) = false) ∨ (Bk.dec s = none ∧ Bk.isB (Bk.read s) = true ∧ Bk.enc (Bk.read s) ≠ s) := by
  unfold Bk.dec
  cases h : Bk.isB (Bk.read s) with
  | false => right; left; simp
  | true =>
    by_cases e : Bk.enc (Bk.read s) = s
    · left; simp [e]
    · right; right; simp [e]
theorem kdecode_any (s : List UInt8) (hs : s.length ≤ 1048576) (w : World) :
    Calls Try.prog 73 #[.string (bs s)] w (KDec w (Bk.dec s)) := by
  obtain ⟨i0, hi, hz0, hz1, hz2⟩ := info_parts mentInfo
  have HI := Lib.hid hi; have HZ0 := Lib.hid hz0; have HZ1 := Lib.hid hz1; have HZ2 := Lib.hid hz2
  have hC32 := Bk.count_le s
  have HCT := Lib.hid (kcount_any s (by omega))
  have HRD := Lib.hid (show Bk.read s = [] ++ Bk.rd (Bk.count s - 0) [] s from rfl)
  have HOK := Lib.hid (read_ok s)
  have HW := Lib.hid (dec_ways s)
  generalize Bk.count s = C at *
  generalize Bk.dec s = O at *
  generalize Bk.read s = L0 at *
  have R0 : Rdr (w.alloc (.cells #[.string (bs s), .string ⟨#[]⟩] 130)) w.heap.size s [] := by
    show (w.heap.push _)[w.heap.size]? = _
    exact Array.getElem?_push_size
  have HR0 := Lib.hid R0
  clear hi hz0 hz1 hz2 R0
  go_enter Try.func73, Try.ntmps73
  go_wp2_with fail
  refine (HCT.out _).mono ?_
  rintro e w1 ⟨rfl, rfl⟩
  go_wp2_with fail
  go_loopw [5, 13] (fun v t wr => ∃ (k : Nat) (L : List Mm.Ent) (R A : List UInt8), k ≤ C ∧ t = .int .i64 k ∧ L.length = k ∧ Hid (L0 = L ++ Bk.rd (C - k) A R) ∧ R.length ≤ 1048576 ∧ A.length ≤ 100 * k ∧ Hid (Rdr wr w.heap.size R A) ∧ Hid (wr.ownsRow (w.heap.size + 1) 37 4 v k (elc L)) ∧ Hid (Kept w wr) ∧ w.heap.size + 1 ≤ wr.heap.size) (fun _ t _ => C - (intOf t).toNat)
  case atStart => exact ⟨0, [], s, [], Nat.zero_le _, rfl, rfl, HRD, hs, by simp, HR0, Lib.hid (World.ownsRow_nil _ _ _ _), Lib.hid ((Kept.refl _).alloc _), by simp⟩
  case round =>
    obtain ⟨k, L, R, A, hk, rfl, hL, HL, hR, hA, HR, HO, HK, hsz⟩ := hrel
    by_cases hlt : k < C
    · obtain ⟨c, hc⟩ : ∃ c, C - k = c + 1 := ⟨C - k - 1, by omega⟩
      have HE := Lib.hid (kentry_any (by omega) (by omega) wr HR.out)
      have HN := Lib.hid (show L0 = (L ++ [(Bk.rdE A R).1]) ++ Bk.rd (C - (k + 1)) (Bk.rdE A R).1.key (Bk.rdE A R).2 by
        have := HL.out
        rw [hc, Bk.rd] at this
        rw [show C - (k + 1) = c by omega, this]
        simp)
      have hRl : (Bk.rdE A R).2.length ≤ 1048576 := by
        have h1 := takeR_le R
        have h2 := tx_le (Nm.takeR R)
        have h3 := takeR_le (Bk.tx (Nm.takeR R)).2
        have h4 := pc_le 1 (Nm.takeR (Bk.tx (Nm.takeR R)).2)
        have h5 := tx_le (Bk.pc 1 (Nm.takeR (Bk.tx (Nm.takeR R)).2)).2
        show (Bk.tx (Bk.pc 1 (Nm.takeR (Bk.tx (Nm.takeR R)).2)).2).2.length ≤ 1048576
        omega
      have hAl : (Bk.rdE A R).1.key.length ≤ 100 * (k + 1) := by
        have h2 := tx_le (Nm.takeR R)
        show (A.take (min (Nm.takeN R) A.length) ++ (Bk.tx (Nm.takeR R)).1).length ≤ 100 * (k + 1)
        rw [List.length_append, List.length_take]
        omega
      have HLE := Lib.hid hL
      generalize Bk.rdE A R = X at *
      obtain ⟨x, R'⟩ := X
      simp only at hRl hAl
      have HES := Lib.hid (elc_snoc L x)
      unfold ecs at HES
      unfold entV at HE
      clear hc hL HCT HR HRD HR0 HL hA hR
      go_wp2_with fail
      refine HE.out.mono ?_
      rintro e w2 ⟨rfl, r2, g2⟩
      have hown2 := kown_same HO.out (fun r hr => g2.block r (HO.out.lt r hr).2 (fun e => by have := (HO.out.lt r hr).1; omega))
      have hs2 : w.heap.size + 1 ≤ w2.heap.size := Nat.le_trans hsz g2.size
      have HR2 := Lib.hid r2
      have HB := Lib.hid (Below.trans HK.out (g2.below (B := w.heap.size) (Nat.le_refl _) (by omega)))
      clear HO g2 r2 HE HK
      go_wp2_with (at_builtin; refine wpList_append_own _ rfl _ _ 22 rfl (w.heap.size + 1) 37 i0 zentV 4 48 Try.underlying22 HI.out HZ0.out HZ1.out HZ2.out rfl (by decide) _ k (elc L) rfl (hown2.alloc _) ⟨w2.heap.size, 0, none⟩ 1 1 [.string (bs x.key), .int .u64 (x.seq : Nat), .bool x.del, .string (bs x.val)] rfl rfl (mcells_new4 _ _ _ _ _ _ _ rfl) (by simp [Value.oneCell']) (by unfold maxLen; omega) (by omega) (by simp; omega) ?_)
      intro v' w3 hown3 hg _
      have hrow := fun b hb => (hown2.lt b hb).1
      have HR3 := Lib.hid ((HR2.out.kept ((Kept.refl _).alloc _)).grown hg (fun k hk => by have := hrow k hk; omega))
      have HK3 := Lib.hid (show Kept w w3 from Below.grown (HB.out.alloc (Below.size HB.out) _) hg (by simp; omega) (fun b hb => by have := hrow b hb; omega))
      have hs3 : w.heap.size + 1 ≤ w3.heap.size := by have := hg.size; simp at this; omega
      rw [← HES.out] at hown3
      have HO3 := Lib.hid hown3
      clear hown3 hown2 hg hrow HR2
      go_wp2_with fail
      go_roundw
      case rel => exact ⟨k + 1, L ++ [x], R', x.key, by omega, by go_num, by rw [List.length_append, HLE.out]; rfl, HN, hRl, hAl, HR3, HO3, HK3, hs3⟩
      case measure => simp [intOf]; omega
    · have e : k = C := by omega
      subst e
      have hL0 : L0 = L := by have := HL.out; rw [Nat.sub_self, Bk.rd, List.append_nil] at this; exact this
      subst hL0
      obtain ⟨B, c, rfl, _, hel⟩ := els_own HO.out
      have HEL := Lib.hid (hel.mono (m := w.heap.size) (by omega))
      have HENC := Lib.hid (fun W (h : Els W B L0) => kencode_any c h (by have := HOK.out.1; unfold maxLen; omega) HOK.out.2)
      clear HL HO HR hL hel HCT HRD HR0
      rcases HW.out with ⟨hO, hb, he⟩ | ⟨hO, hb⟩ | ⟨hO, hb, he⟩
      · have h1 := Bk.enc_yes hb
        rw [h1.1, h1.2, he] at HENC
        have HOO := Lib.hid hO
        have t1 : ((bs s).toList != (bs s).toList) = false := by simp
        clear h1 hO hb he HW
        go_wp2_with fail
        refine (HENC.out _ HEL.out.els).mono ?_
        rintro e w2 ⟨rfl, g2⟩
        go_wp2_with fail
        go_ret2
        exact .inl ⟨L0, B, c, HOO.out, rfl, HEL.out.kept g2, kept_trans HK.out g2⟩
      · have h1 := Bk.enc_no hb
        rw [h1.1, h1.2] at HENC
        have HOO := Lib.hid hO
        clear h1 hO hb HW
        go_wp2_with fail
        refine (HENC.out _ HEL.out.els).mono ?_
        rintro e w2 ⟨rfl, g2⟩
        go_wp2_with fail
        go_ret2
        exact .inr ⟨HOO.out, rfl, kept_trans HK.out g2⟩
      · have h1 := Bk.enc_yes hb
        rw [h1.1, h1.2] at HENC
        have HOO := Lib.hid hO
        have t1 : ((bs (Bk.enc L0)).toList == (bs s).toList) = false := by rw [mbs_eq, decide_eq_false he]
        clear h1 hO hb he HW
        generalize Bk.enc L0 = X at *
        go_wp2_with fail
        refine (HENC.out _ HEL.out.els).mono ?_
        rintro e w2 ⟨rfl, g2⟩
        go_wp2_with fail
        go_ret2
        exact .inr ⟨HOO.out, rfl, kept_trans HK.out g2⟩
theorem kdecode_some {s : List UInt8} {l : List Mm.Ent} (hs : s.length ≤ 1048576) (h : Bk.dec s = some l) (w : World) :
    Calls Try.prog 73 #[.string (bs s)] w fun e w' => ∃ B c, e = .returned (.tuple #[.slice B l.length c, .int .i64 0]) ∧ Elr w.heap.size w' B c l ∧ Kept w w' := by
  refine (kdecode_any s hs w).mono fun e w' ht => ?_
  rcases ht with ⟨l', B, c, hO, rfl, h1, h2⟩ | ⟨hO, _⟩
  · rw [h] at hO
    injection hO with hO
    subst hO
    exact ⟨B, c, rfl, h1, h2⟩
  · rw [h] at hO; cases hO
theorem kdecode_none {s : List UInt8} (hs : s.length ≤ 1048576) (h : Bk.dec s = none) (w : World) :
    Calls Try.prog 73 #[.string (bs s)] w fun e w' => e = .returned (.tuple #[.slice none 0 0, .int .i64 2]) ∧ Kept w w' := by
  refine (kdecode_any s hs w).mono fun e w' ht => ?_
  rcases ht with ⟨l', B, c, hO, _⟩ | ⟨_, rfl, h2⟩
  · rw [h] at hO; cases hO
  · exact ⟨rfl, h2⟩
/-- the first entry that isn't ahead -/
def sk (l : List Mm.Ent) (k : List UInt8) (s : Nat) : Option Mm.Ent := l.find? (fun x => !x.ah k s)
theorem sk_at {l : List Mm.Ent} {k : List UInt8} {s i : Nat} {x : Mm.Ent} (hx : l[i]? = some x) (h : x.ah k s = false) (ha : ∀ y ∈ l.take i, y.ah k s = true) : sk l k s = some x := by
  unfold sk
  rw [List.find?_eq_some_iff_append]
  refine ⟨by simp [h], l.take i, l.drop (i + 1), ?_, fun y hy => by simp [ha y hy]⟩
  obtain ⟨hi, rfl⟩ := List.getElem?_eq_some_iff.1 hx
  rw [List.getElem_cons_drop hi, List.take_append_drop]
theorem sk_none {l : List Mm.Ent} {k : List UInt8} {s : Nat} (ha : ∀ y ∈ l, y.ah k s = true) : sk l k s = none := by
  unfold sk
  rw [List.find?_eq_none]
  intro y hy; simp [ha y hy]
theorem take_ah {l : List Mm.Ent} {k : List UInt8} {s i : Nat} {x : Mm.Ent} (hx : l[i]? = some x) (h : x.ah k s = true) (ha : ∀ y ∈ l.take i, y.ah k s = true) : ∀ y ∈ l.take (i + 1), y.ah k s = true := fun y hy => by
  rw [List.take_add_one, hx, List.mem_append] at hy
  rcases hy with hy | hy
  · exact ha y hy
  · simp at hy; rw [hy]; exact h
theorem malloc_at (w : World) (o : Obj) (b : Nat) (hb : w.heap.size = b) : (w.alloc o).heap[b]? = some o := by
  subst hb; exact malloc_new w o
theorem kels_two (x : Mm.Ent) (k : List UInt8) (s : Nat) (W : World) (b : Nat) (h : W.heap[b]? = some (.cells #[.string (bs x.key), .int .u64 (x.seq : Nat), .bool x.del, .string (bs x.val), .string (bs k), .int .u64 (s : Nat), .bool false, .string ⟨#[]⟩] 37)) : Els W (some ⟨b, 0, none⟩) [x, ⟨k, s, false, []⟩] := els_lit h rfl
theorem kgrow_two (x : Mm.Ent) (k : List UInt8) (s : Nat) (W : World) (b : Nat) (h : W.heap[b]? = some (.cells #[.string (bs x.key), .int .u64 (x.seq : Nat), .bool x.del, .string (bs x.val), .string (bs k), .int .u64 (s : Nat), .bool false, .string ⟨#[]⟩] 37)) :
    Calls Try.prog 24 #[.slice (some ⟨b, 0, none⟩) 2 2] W fun e w' => e = .returned (.bool (x.ah k s)) ∧ Kept W w' := by
  have := grow_any (some ⟨b, 0, none⟩) 2 [x, ⟨k, s, false, []⟩] (by simp) W (kels_two x k s W b h)
  rw [show Mg.row [x, ⟨k, s, false, []⟩] = x.ah k s by simp [Mg.row, Mg.ab, Mm.Ent.ah]] at this
  exact this
theorem kclo_any {q : Nat} (x : Mm.Ent) (k : List UInt8) (s : Nat) (w : World) (hq : w.heap[q]? = some (.cells #[.string (bs k), .int .u64 (s : Nat), .bool false, .string ⟨#[]⟩] 37 (0, 0))) :
    Calls Try.prog 75 #[entV x, .pointer (some ⟨q, 0, none⟩)] w fun e w' => e = .returned (.bool (!x.ah k s)) ∧ Kept w w' := by
  have c0 := blk_cell hq 0; have c1 := blk_cell hq 1; have c2 := blk_cell hq 2; have c3 := blk_cell hq 3
  simp only [List.getElem?_toArray, List.getElem?_cons_zero, List.getElem?_cons_succ] at c0 c1 c2 c3
  have hlt := mheap_lt hq
  have HG := Lib.hid (fun (W : World) (b : Nat) h => kgrow_two x k s W b h)
  clear hq
  unfold entV
  go_enter Try.func75, Try.ntmps75
  go_wp2_with fail
  refine (HG.out _ _ (malloc_at _ _ _ (by simp))).mono ?_
  rintro e w1 ⟨rfl, g1⟩
  go_wp2_with fail
  go_ret
  exact ⟨rfl, kept_trans (((Kept.refl _).alloc _).alloc _) g1⟩
/-- what IndexFunc tells: where the first one stands that isn't ahead, or that there is none -/
def KIdx (w : World) (l : List Mm.Ent) (k : List UInt8) (s : Nat) (e : Ending) (w' : World) : Prop :=
  (∃ i x, l[i]? = some x ∧ sk l k s = some x ∧ e = .returned (.int .i64 (i : Nat)) ∧ Kept w w') ∨ (sk l k s = none ∧ e = .returned (.int .i64 (-1)) ∧ Kept w w')
theorem kidx_any {w : World} {A : Option Addr} {l : List Mm.Ent} {q : Nat} (c : Nat) (h : Els w A l) (hl : l.length ≤ 4000) (k : List UInt8) (s : Nat) (hq : w.heap[q]? = some (.cells #[.string (bs k), .int .u64 (s : Nat), .bool false, .string ⟨#[]⟩] 37 (0, 0))) :
    Calls Try.prog 74 #[.slice A l.length c, .func (.func 75) #[] #[.pointer (some ⟨q, 0, none⟩)]] w (KIdx w l k s) := by
  have HE := Lib.hid h; have HQ := Lib.hid hq
  have hqlt := mheap_lt hq
  clear h hq
  go_enter Try.func74, Try.ntmps74
  go_wp2_with fail
  go_loopw [8] (fun t wr => ∃ i : Nat, i ≤ l.length ∧ t = .int .i64 i ∧ Hid (∀ y ∈ l.take i, y.ah k s = true) ∧ Kept w wr) (fun t _ => l.length - (intOf t).toNat)
  case atStart => exact ⟨0, Nat.zero_le _, rfl, Lib.hid (fun y hy => by simp at hy), Kept.refl _⟩
  case round =>
    obtain ⟨i, hi, rfl, HA, hkr⟩ := hrel
    by_cases hlt : i < l.length
    · obtain ⟨x, hx⟩ : ∃ x, l[i]? = some x := ⟨_, List.getElem?_eq_getElem hlt⟩
      obtain ⟨b, o, rfl, hb, c0, c1, c2, c3⟩ := (HE.out.kept hkr) i x hx
      have HC := Lib.hid (fun W (k2 : Kept w W) => kclo_any x k s W ((Below.block k2 q hqlt).trans HQ.out))
      unfold entV at HC
      have HX := Lib.hid hx
      clear hx
      cases hv : x.ah k s with
      | true =>
        have HN := Lib.hid (take_ah HX.out hv HA.out)
        rw [hv] at HC
        clear hv HA
        go_wp2_with fail
        refine (HC.out _ hkr).mono ?_
        rintro e w1 ⟨rfl, g1⟩
        go_wp2_with fail
        go_roundw
        case rel => exact ⟨i + 1, by omega, by go_num, HN, kept_trans hkr g1⟩
        case measure => simp [intOf]; omega
      | false =>
        have HN := Lib.hid (sk_at HX.out hv HA.out)
        rw [hv] at HC
        clear hv HA
        go_wp2_with fail
        refine (HC.out _ hkr).mono ?_
        rintro e w1 ⟨rfl, g1⟩
        go_wp2_with fail
        go_ret
        exact .inl ⟨i, x, HX.out, HN.out, rfl, kept_trans hkr g1⟩
    · have e : i = l.length := by omega
      subst e
      have HN := Lib.hid (show sk l k s = none from sk_none (by have := HA.out; rw [List.take_length] at this; exact this))
      clear HA
      go_wp2_with fail
      go_ret
      exact .inr ⟨HN.out, rfl, hkr⟩
/-- what Seek tells -/
def skV (O : Option (List Mm.Ent)) (k : List UInt8) (s : Nat) : Value := match O with
  | none => .tuple #[entV Mm.zent, .bool false, .int .i64 2]
  | some l => match sk l k s with
    | none => .tuple #[entV Mm.zent, .bool false, .int .i64 0]
    | some x => .tuple #[entV x, .bool true, .int .i64 0]
theorem zres {W w' : World} (k : Kept (W.alloc (.cells #[.string ⟨#[]⟩, .int .u64 0, .bool false, .string ⟨#[]⟩] 37)) w') : w'.heap[W.heap.size]? = some (.cells #[.string ⟨#[]⟩, .int .u64 0, .bool false, .string ⟨#[]⟩] 37 (0, 0)) :=
  (Below.block k _ (by simp)).trans (malloc_new W _)
theorem fin4 {w W : World} {x y z u : Value} (k : Kept w W) {q : Nat} (hq : w.heap.size ≤ q) : Kept w ((((W.setCell ⟨q, 0, none⟩ x).setCell ⟨q, 1, none⟩ y).setCell ⟨q, 2, none⟩ z).setCell ⟨q, 3, none⟩ u) :=
  (((Below.setCell (Below.setCell (Below.setCell (Below.setCell k (p := ⟨q, 0, none⟩) hq _) (p := ⟨q, 1, none⟩) hq _) (p := ⟨q, 2, none⟩) hq _) (p := ⟨q, 3, none⟩) hq _)))
theorem kseek_none (s k : List UInt8) (n : Nat) (hs : s.length ≤ 1048576) (h : Bk.dec s = none) (w : World) :
    Calls Try.prog 46 #[.string (bs s), .string (bs k), .int .u64 (n : Nat)] w fun e w' => e = .returned (skV none k n) ∧ Kept w w' := by
  have HD := Lib.hid (kdecode_none hs h)
  clear h
  go_enter Try.func46, Try.ntmps46
  go_wp2_with fail
  refine (HD.out _).mono ?_
  rintro e w1 ⟨rfl, g1⟩
  have r := zres g1
  have r0 := blk_cell r 0; have r1 := blk_cell r 1; have r2 := blk_cell r 2; have r3 := blk_cell r 3
  have s0 := blk_soft r 0; have s1 := blk_soft r 1; have s2 := blk_soft r 2; have s3 := blk_soft r 3
  simp only [List.getElem?_toArray, List.getElem?_cons_zero, List.getElem?_cons_succ] at r0 r1 r2 r3
  have G1 := Lib.hid (kept_trans ((Kept.refl w).alloc _) g1)
  clear r g1
  go_wp2_with fail
  refine bodyPost_ret (v := skV none k n) (by simp [results, Try.results46, skV, entV, Mm.zent, bs, go_sem, r0, r1, r2, r3]) rfl ⟨rfl, ?_⟩
  exact fin4 G1.out (Nat.le_refl _)
theorem kseek_some (s k : List UInt8) (n : Nat) (hs : s.length ≤ 1048576) {l : List Mm.Ent} (h : Bk.dec s = some l) (w : World) :
    Calls Try.prog 46 #[.string (bs s), .string (bs k), .int .u64 (n : Nat)] w fun e w' => e = .returned (skV (some l) k n) ∧ Kept w w' := by
  have hl : l.length ≤ 32 := (Bk.isB_iff.1 (Bk.dec_back h).1).2.1
  have HD := Lib.hid (kdecode_some hs h)
  clear h
  go_enter Try.func46, Try.ntmps46
  go_wp2_with fail
  refine (HD.out _).mono ?_
  rintro e w1 ⟨B, c, rfl, hel, g1⟩
  have HEL := Lib.hid (hel.els.kept ((Kept.refl _).alloc (.cells #[.string (bs k), .int .u64 (n : Nat), .bool false, .string ⟨#[]⟩] 37)))
  have HQ := Lib.hid (malloc_new w1 (.cells #[.string (bs k), .int .u64 (n : Nat), .bool false, .string ⟨#[]⟩] 37))
  have G1 := Lib.hid (g1.alloc (.cells #[.string (bs k), .int .u64 (n : Nat), .bool false, .string ⟨#[]⟩] 37))
  have HIX := Lib.hid (kidx_any c HEL.out (by omega) k n HQ.out)
  clear hel g1
  go_wp2_with fail
  refine HIX.out.mono ?_
  rintro e w2 (⟨i, x, hx, hs, rfl, g2⟩ | ⟨hs, rfl, g2⟩)
  · have HS := Lib.hid (show skV (some l) k n = .tuple #[entV x, .bool true, .int .i64 0] by simp only [skV]; rw [hs])
    obtain ⟨b, o, rfl, hb, c0, c1, c2, c3⟩ := (HEL.out.kept g2) i x hx
    have hi := (List.getElem?_eq_some_iff.1 hx).1
    have r := zres (kept_trans G1.out g2)
    have r0 := blk_cell r 0; have r1 := blk_cell r 1; have r2 := blk_cell r 2; have r3 := blk_cell r 3
    have s0 := blk_soft r 0; have s1 := blk_soft r 1; have s2 := blk_soft r 2; have s3 := blk_soft r 3
    simp only [List.getElem?_toArray, List.getElem?_cons_zero, List.getElem?_cons_succ] at r0 r1 r2 r3
    have G2 := Lib.hid (kept_trans ((Kept.refl w).alloc _) (kept_trans G1.out g2))
    clear r g2 hs hx HIX HD
    go_wp2_with fail
    refine bodyPost_ret (v := .tuple #[entV x, .bool true, .int .i64 0]) (by simp [results, Try.results46, entV, go_sem, r0, r1, r2, r3]) rfl ⟨by rw [HS.out], ?_⟩
    exact fin4 G2.out (Nat.le_refl _)
  · have HS := Lib.hid (show skV (some l) k n = .tuple #[entV Mm.zent, .bool false, .int .i64 0] by simp only [skV]; rw [hs])
    have r := zres (kept_trans G1.out g2)
    have r0 := blk_cell r 0; have r1 := blk_cell r 1; have r2 := blk_cell r 2; have r3 := blk_cell r 3
    have s0 := blk_soft r 0; have s1 := blk_soft r 1; have s2 := blk_soft r 2; have s3 := blk_soft r 3
    simp only [List.getElem?_toArray, List.getElem?_cons_zero, List.getElem?_cons_succ] at r0 r1 r2 r3
    have G2 := Lib.hid (kept_trans ((Kept.refl w).alloc _) (kept_trans G1.out g2))
    clear r g2 hs HIX HD
    go_wp2_with fail
    refine bodyPost_ret (v := .tuple #[entV Mm.zent, .bool false, .int .i64 0]) (by simp [results, Try.results46, entV, Mm.zent, bs, go_sem, r0, r1, r2, r3]) rfl ⟨by rw [HS.out], ?_⟩
    exact fin4 G2.out (Nat.le_refl _)
theorem kseek_any (s k : List UInt8) (n : Nat) (hs : s.length ≤ 1048576) (w : World) :
    Calls Try.prog 46 #[.string (bs s), .string (bs k), .int .u64 (n : Nat)] w fun e w' => e = .returned (skV (Bk.dec s) k n) ∧ Kept w w' := by
  cases h : Bk.dec s with
  | none => exact kseek_none s k n hs h w
  | some l => exact kseek_some s k n hs h w
end Go.Proofs.Ytecjnebfhbdnaaa
