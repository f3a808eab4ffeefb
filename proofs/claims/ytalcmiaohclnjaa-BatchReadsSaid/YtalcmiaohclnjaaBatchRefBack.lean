/-
  The document's own Decode of layer 5 (package screeref05) tells the same as the program's, whatever the bytes.
-/
import Derived.Test.YtalcmiaohclnjaaBatchRefDec
namespace Go.Proofs.Ytalcmiaohclnjaa
open Go.ChangeShapes Go.WideShapes Go.ChangeAt Go.RowKit
set_option linter.unusedVariables false
set_option maxHeartbeats 1000000

namespace Bt
/-- an operation as the document's own Decode takes it: a mark that isn't 1 is passed over -/
def rtake1 (s : List UInt8) : Option (Op × List UInt8) :=
  match s with
  | [] => none
  | c :: r =>
    match takeT r with
    | none => none
    | some (k, r1) =>
      if c = 1 then some (⟨true, k, []⟩, r1)
      else
        match takeT r1 with
        | none => none
        | some (v, r2) => some (⟨false, k, v⟩, r2)
def rtakeL : Nat → List UInt8 → Option (List Op × List UInt8)
  | 0, s => some ([], s)
  | c + 1, s =>
    match rtake1 s with
    | none => none
    | some (x, r) =>
      match rtakeL c r with
      | none => none
      | some (l, q) => some (x :: l, q)
def rdecR (n : Nat) (s : List UInt8) (o : Option (List Op × List UInt8)) : Option (Nat × List Op) :=
  match o with
  | none => none
  | some (l, _) => if ok n l = true ∧ enc n l = s then some (n, l) else none
def rdecQ (n : Nat) (s b : List UInt8) : Option (Nat × List Op) :=
  match Nm.take b with
  | none => none
  | some (c, q) => if c ≤ 16 then rdecR n s (rtakeL c q) else none
def rdec (s : List UInt8) : Option (Nat × List Op) :=
  match Nm.take s with
  | none => none
  | some (n, b) => rdecQ n s b
theorem rtake1_enc (x : Op) (r : List UInt8) (h : Wide x) : rtake1 (enc1 x ++ r) = some (x, r) := by
  obtain ⟨d, k, v⟩ := x
  obtain ⟨h1, h2, h3⟩ := h
  cases d with
  | true =>
    have hv : v = [] := h3 rfl
    subst hv
    unfold enc1 rtake1
    simp [takeT_sized k r h1]
  | false =>
    unfold enc1 rtake1
    simp [takeT_sized k _ h1, takeT_sized v r h2]
theorem rtakeL_enc (l : List Op) (r : List UInt8) (h : ∀ x ∈ l, Wide x) : rtakeL l.length (encL l ++ r) = some (l, r) := by
  induction l with
  | nil => rfl
  | cons x l ih =>
    simp only [List.length_cons, rtakeL, encL, List.append_assoc]
    rw [rtake1_enc x _ (h x List.mem_cons_self)]
    show (match rtakeL l.length (encL l ++ r) with | none => none | some (m, q) => some (x :: m, q)) = _
    rw [ih (fun y hy => h y (List.mem_cons_of_mem _ hy))]
theorem rdecR_back {n : Nat} {s : List UInt8} {o : Option (List Op × List UInt8)} {m : Nat} {l : List Op} (h : rdecR n s o = some (m, l)) : ok m l = true ∧ enc m l = s := by
  unfold rdecR at h
  split at h
  · cases h
  · split at h
    · rename_i hc
      injection h with h
      injection h with e1 e2
      subst e1 e2
      exact hc
    · cases h
theorem rdec_back {s : List UInt8} {m : Nat} {l : List Op} (h : rdec s = some (m, l)) : ok m l = true ∧ enc m l = s := by
  unfold rdec at h
  split at h
  · cases h
  · unfold rdecQ at h
    split at h
    · cases h
    · split at h
      · exact rdecR_back h
      · cases h
theorem rdec_eq (s : List UInt8) : dec s = rdec s := by
  cases hd : dec s with
  | some x =>
    obtain ⟨n, l⟩ := x
    obtain ⟨e, hok⟩ := dec_back hd
    obtain ⟨h1, h2⟩ := ok_iff.1 hok
    obtain ⟨_, h16, hall⟩ := may_iff.1 h1
    obtain ⟨_, hn⟩ := nums_iff.1 h2
    subst e
    have t1 : Nm.take (enc n l) = some (n, Nm.short l.length ++ encL l) := by unfold enc; exact Nm.take_short _ _ (by omega)
    have t2 : Nm.take (Nm.short l.length ++ encL l) = some (l.length, encL l) := Nm.take_short _ _ (by omega)
    have t3 := rtakeL_enc l [] (fun x hx => may1_wide (hall x hx))
    rw [List.append_nil] at t3
    unfold rdec
    rw [t1]
    show some (n, l) = rdecQ n (enc n l) (Nm.short l.length ++ encL l)
    unfold rdecQ
    rw [t2]
    show some (n, l) = if l.length ≤ 16 then rdecR n (enc n l) (rtakeL l.length (encL l)) else none
    rw [if_pos h16, t3]
    show some (n, l) = if ok n l = true ∧ enc n l = enc n l then some (n, l) else none
    rw [if_pos ⟨hok, rfl⟩]
  | none =>
    cases hr : rdec s with
    | none => rfl
    | some y =>
      obtain ⟨n, l⟩ := y
      obtain ⟨hok, e⟩ := rdec_back hr
      rw [← e, dec_enc hok] at hd
      cases hd
theorem rtakeL_none {c : Nat} {s : List UInt8} (h : rtake1 s = none) : rtakeL (c + 1) s = none := by simp only [rtakeL, h]
theorem takeT_less {s t r : List UInt8} (h : takeT s = some (t, r)) : t.length ≤ s.length ∧ r.length ≤ s.length := by
  have e := congrArg List.length (takeT_back h).1
  unfold sized at e
  simp only [List.length_append] at e
  omega
end Bt
theorem rtakeL_some {c : Nat} {s r : List UInt8} {x : Bt.Op} (L : List Bt.Op) (h : Bt.rtake1 s = some (x, r)) : more L (Bt.rtakeL (c + 1) s) = more (L ++ [x]) (Bt.rtakeL c r) := by
  simp only [Bt.rtakeL, h]
  cases Bt.rtakeL c r with
  | none => rfl
  | some p => simp [more]
theorem rencode_not (n : Int) (A : Option Addr) (c : Nat) (l : List Bt.Op) (h1 : 0 ≤ n) (h2 : n ≤ 18446744073709551615) (hl : l.length ≤ maxLen) (hs : Sane l) (hno : Bt.ok n.toNat l = false) (w : World) (hA : Ops w A l) :
    Calls Try.prog 13 #[.int .u64 n, .slice A l.length c] w fun e w' => ∃ E : Int, e = .returned (.tuple #[.string (bs []), .int .i64 E]) ∧ (E == 0) = false ∧ Kept w w' := by
  have := rencode_any n A c l h1 h2 hl hs w hA
  have e1 : Bt.encS n.toNat l = [] := by unfold Bt.encS; rw [hno]; rfl
  have e2 : (Bt.encE n.toNat l == 0) = false := by
    rw [beq_eq_false_iff_ne, ne_eq, Bt.encE_ok, hno]; simp
  rw [e1] at this
  exact this.mono fun e w' h => ⟨_, h.1, e2, h.2⟩
theorem bset {w : World} {b : Nat} {c : Array Value} {t : TypeId} {z : Nat × Nat} (h : w.heap[b]? = some (.cells c t z)) (j : Nat) (x : Value) : (w.setCell ⟨b, j, none⟩ x).heap[b]? = some (.cells (c.setIfInBounds j x) t z) := by
  simp [World.setCell, Array.getElem?_modify, h]
theorem blk_kept {w w1 : World} {b : Nat} {c : Array Value} {t : TypeId} {z : Nat × Nat} (h : w.heap[b]? = some (.cells c t z)) (k : Kept w w1) : w1.heap[b]? = some (.cells c t z) := (Below.block k b (Array.getElem?_eq_some_iff.1 h).1).trans h
theorem blk_new (w : World) (c : Array Value) (t : TypeId) : (w.alloc (.cells c t)).heap[w.heap.size]? = some (.cells c t (0, 0)) := by
  show (w.heap.push _)[w.heap.size]? = _
  exact Array.getElem?_push_size
theorem own_set {w : World} {B b n size : Nat} {e : TypeId} {v : Value} {xs : List Value} (ho : w.ownsRow B e size v n xs) (hne : v.ownBlock ≠ some b) (j : Nat) (x : Value) : (w.setCell ⟨b, j, none⟩ x).ownsRow B e size v n xs :=
  ho.kept (row := some b) ⟨rfl, rfl, rfl, by simp [World.setCell], fun k _ hk => Below.heap_setCell _ _ _ _ (fun e => hk (by simp [e]))⟩ (.inr hne)
theorem three_cells {w : World} {b : Nat} {x y z : Value} {t : TypeId} (h : w.heap[b]? = some (.cells #[x, y, z] t (0, 0))) :
    (w.cell? ⟨b, 0, none⟩ = some x ∧ w.cell? ⟨b, 1, none⟩ = some y ∧ w.cell? ⟨b, 2, none⟩ = some z) ∧ w.frozen? ⟨b, 0, none⟩ = false ∧ w.frozen? ⟨b, 1, none⟩ = false ∧ w.frozen? ⟨b, 2, none⟩ = false :=
  ⟨⟨blk_cell h 0, blk_cell h 1, blk_cell h 2⟩, blk_soft h 0, blk_soft h 1, blk_soft h 2⟩
set_option maxHeartbeats 8000000 in
set_option maxRecDepth 100000 in
theorem rdecode_any (s : ByteArray) (hs : s.size ≤ 16777216) (w : World) :
    Calls Try.prog 21 #[.string s] w (DecTold w (Bt.dec s.data.toList)) := by
  rw [Bt.rdec_eq]
  have hsl : s.data.toList.length ≤ 16777216 := by rw [toList_size]; exact hs
  have hbs : s = bs s.data.toList := (fbs_self s).symm
  generalize s.data.toList = R at *
  subst hbs
  cases hq : Nm.take R with
  | none =>
    have ho : Bt.rdec R = none := by unfold Bt.rdec; rw [hq]
    rw [ho]
    have h1 := brtake_none hsl hq
    have h2 := brtake_none (R := []) (by simp) rfl
    clear hq ho
    go_enter Try.func21, Try.ntmps21
    go_wp2_with fail
    refine (h1 _).mono ?_
    rintro e w1 ⟨rfl, g1⟩
    go_wp2_with fail
    refine (h2 _).mono ?_
    rintro e w2 ⟨rfl, g2⟩
    go_wp2_with fail
    go_ret3
    exact .inr ⟨rfl, rfl, kept_trans g1 g2⟩
  | some x =>
    obtain ⟨n, b0⟩ := x
    have hbnd := (Nm.take_back _ _ _ hq).2
    have hbl : b0.length ≤ 16777216 := by
      have e := congrArg List.length (Nm.take_back _ _ _ hq).1
      rw [List.length_append] at e; omega
    have ho : Bt.rdec R = Bt.rdecQ n R b0 := by unfold Bt.rdec; rw [hq]
    rw [ho]
    have h1 := brtake_some hsl hq
    clear hq ho
    cases hq2 : Nm.take b0 with
    | none =>
      have ho : Bt.rdecQ n R b0 = none := by unfold Bt.rdecQ; rw [hq2]
      rw [ho]
      have h2 := brtake_none hbl hq2
      clear hq2 ho
      go_enter Try.func21, Try.ntmps21
      go_wp2_with fail
      refine (h1 _).mono ?_
      rintro e w1 ⟨rfl, g1⟩
      go_wp2_with fail
      refine (h2 _).mono ?_
      rintro e w2 ⟨rfl, g2⟩
      go_wp2_with fail
      go_ret3
      exact .inr ⟨rfl, rfl, kept_trans g1 g2⟩
    | some y =>
      obtain ⟨C, q⟩ := y
      have hb2 := (Nm.take_back _ _ _ hq2).2
      have hql : q.length ≤ 16777216 := by
        have e := congrArg List.length (Nm.take_back _ _ _ hq2).1
        rw [List.length_append] at e; omega
      have h2 := brtake_some hbl hq2
      by_cases h16 : 16 < C
      · have ho : Bt.rdecQ n R b0 = none := by unfold Bt.rdecQ; rw [hq2]; simp; omega
        rw [ho]
        have d1 : decide ((16 : Int) < (C : Int)) = true := by simp; omega
        clear hq2 ho
        go_enter Try.func21, Try.ntmps21
        go_wp2_with fail
        refine (h1 _).mono ?_
        rintro e w1 ⟨rfl, g1⟩
        go_wp2_with fail
        refine (h2 _).mono ?_
        rintro e w2 ⟨rfl, g2⟩
        go_wp2_with fail
        go_ret3
        exact .inr ⟨rfl, rfl, kept_trans g1 g2⟩
      · have ho : Bt.rdecQ n R b0 = Bt.rdecR n R (Bt.rtakeL C q) := by unfold Bt.rdecQ; rw [hq2]; simp; omega
        have d1 : decide ((16 : Int) < (C : Int)) = false := by simp; omega
        have hC16 : C ≤ 16 := by omega
        rw [ho]
        clear hq2 ho h16
        generalize hO : Bt.rtakeL C q = O
        have hst : O = more [] (Bt.rtakeL (C - 0) q) := by rw [Nat.sub_zero, hO]; unfold more; cases O <;> simp
        have HST := Lib.hid hst; clear hst hO
        generalize hD : Bt.rdecR n R O = D
        have HD := Lib.hid hD; clear hD
        obtain ⟨i0, hi, hz0, hz1, hz2⟩ := info_parts opInfo
        have HI := Lib.hid hi; have HZ0 := Lib.hid hz0; have HZ1 := Lib.hid hz1; have HZ2 := Lib.hid hz2
        clear hi hz0 hz1 hz2
        go_enter Try.func21, Try.ntmps21
        go_wp2_with fail
        refine (h1 _).mono ?_
        rintro e w1 ⟨rfl, g1⟩
        go_wp2_with fail
        refine (h2 _).mono ?_
        rintro e w2 ⟨rfl, g2⟩
        have g12 := kept_trans g1 g2
        have hsz2 := Below.size g12
        clear g1 g2 h1 h2
        go_wp2_with fail
        go_loopw [0, 12, 13] (fun z v t wr => ∃ (k : Nat) (L : List Bt.Op) (Q : List UInt8), k ≤ C ∧ t = .int .u64 k ∧ z = .string (bs Q) ∧ L.length = k ∧ Hid (O = more L (Bt.rtakeL (C - k) Q)) ∧ Hid (Sane L) ∧ Q.length ≤ 16777216 ∧ wr.ownsRow w.heap.size 34 3 v k (opc L) ∧ Kept w wr) (fun _ _ t _ => C - (intOf t).toNat)
        case atStart => exact ⟨0, [], q, Nat.zero_le _, rfl, rfl, rfl, HST, Lib.hid (fun x hx => by simp at hx), hql, World.ownsRow_lit (base := w.heap.size) (e := 34) (size := 3) w2 #[] 0 hsz2 (by unfold maxLen; omega) rfl, g12.alloc _⟩
        case round =>
          obtain ⟨k, L, Q, hk, rfl, rfl, hL, HO, HSL, hQ, hown, hkr⟩ := hrel
          have hbase : w.heap.size ≤ wr.heap.size := Below.size hkr
          by_cases hkc : k < C
          · have hck : C - k = (C - (k + 1)) + 1 := by omega
            cases Q with
            | nil =>
              have hO : O = none := by rw [HO.out, hck, Bt.rtakeL_none rfl]; rfl
              have hDn : D = none := by rw [← HD.out, hO]; rfl
              subst hDn
              have ez : (bs []).size = 0 := rfl
              clear HO hck hO HD
              go_wp2_with fail
              go_ret3
              exact .inr ⟨rfl, rfl, hkr⟩
            | cons c r =>
              have hrl : r.length ≤ 16777216 := by simp at hQ; omega
              have ez : (bs (c :: r)).size = r.length + 1 := by rw [fbs_size]; rfl
              have h0 : 0 < (bs (c :: r)).size := by omega
              have hQ2 : r.length + 1 ≤ 16777216 := hQ
              have z1 : (bs (c :: r)).size ≤ 16777216 := by omega
              have ne0 : (((bs (c :: r)).size : Int) == 0) = false := beq_eq_false_iff_ne.2 (by omega)
              have hg0 : (bs (c :: r))[0]'h0 = c := rfl
              have hx1 : (bs (c :: r)).extract 1 (bs (c :: r)).size = bs r := extract_drop (c :: r) 1
              have HX1 := Lib.hid hx1
              have hne : ∀ b, u12.ownBlock = some b → b < wr.heap.size := fun b hb => (hown.lt b hb).2
              have hne2 : u12.ownBlock ≠ some wr.heap.size := fun e => by have := hne _ e; omega
              have HNE := Lib.hid hne2
              have HROW := Lib.hid (fun b hb => (hown.lt b hb).1)
              clear hx1 hne hne2
              cases ht : Bt.takeT r with
              | none =>
                have hO : O = none := by rw [HO.out, hck, Bt.rtakeL_none (by unfold Bt.rtake1; simp [ht])]; rfl
                have hDn : D = none := by rw [← HD.out, hO]; rfl
                subst hDn
                have HT := Lib.hid (rtaken_none ht hrl)
                clear HO hck hO HD ht ez
                go_wp2_with fail
                rw [HX1.out]
                refine (HT.out _).mono ?_
                rintro e w3 ⟨rfl, g3⟩
                obtain ⟨⟨p0, p1, p2⟩, f0, f1, f2⟩ := three_cells (blk_kept (blk_new wr _ _) g3)
                go_wp2_with fail
                go_ret3
                exact .inr ⟨rfl, rfl, Below.setCell (kept_trans hkr (kept_trans ((Kept.refl wr).alloc _) g3)) (p := ⟨wr.heap.size, 1, none⟩) hbase _⟩
              | some y =>
                obtain ⟨ky, r1⟩ := y
                obtain ⟨tl1, tl2⟩ := Bt.takeT_less ht
                have hr1 : r1.length ≤ 16777216 := by omega
                have HT := Lib.hid (rtaken_some ht hrl)
                by_cases hc : c = 1
                · subst hc
                  have q1 : (((1 : UInt8).toNat : Int) == 1) = true := rfl
                  have h1 : Bt.rtake1 (1 :: r) = some (⟨true, ky, []⟩, r1) := by unfold Bt.rtake1; simp [ht]
                  have hO : O = more (L ++ [⟨true, ky, []⟩]) (Bt.rtakeL (C - (k + 1)) r1) := by rw [HO.out, hck, rtakeL_some L h1]
                  have HN := Lib.hid hO
                  have hsan : Sane (L ++ [⟨true, ky, []⟩]) := fun x hx => by
                    rcases List.mem_append.1 hx with hx | hx
                    · exact HSL.out x hx
                    · simp at hx; subst hx; unfold maxLen; simp; omega
                  have HSN := Lib.hid hsan
                  have hop := opc_snoc L ⟨true, ky, []⟩
                  have HOP := Lib.hid hop
                  clear HO hck hO h1 hsan hop ht ez
                  go_wp2_with fail
                  rw [HX1.out]
                  refine (HT.out _).mono ?_
                  rintro e w3 ⟨rfl, g3⟩
                  have hb3 := blk_kept (blk_new wr _ _) g3
                  obtain ⟨⟨p0, p1, p2⟩, f0, f1, f2⟩ := three_cells hb3
                  clear hb3
                  have hown3 := own_set (own_kept (hown.alloc _) g3) HNE.out 1 (.string (bs ky))
                  have hk3 : Kept w (w3.setCell ⟨wr.heap.size, 1, none⟩ (.string (bs ky))) := Below.setCell (kept_trans hkr (kept_trans ((Kept.refl wr).alloc _) g3)) (p := ⟨wr.heap.size, 1, none⟩) hbase _
                  have hsz3 : w.heap.size ≤ w3.heap.size := by have := Below.size g3; simp at this; omega
                  clear hown
                  go_wp2_with (at_builtin; refine wpList_append_own _ rfl _ _ 23 rfl w.heap.size 34 i0 zop 3 40 Try.underlying23 HI.out HZ0.out HZ1.out HZ2.out rfl (by decide) u12 k (opc L) rfl (hown3.alloc _) ⟨w3.heap.size, 0, none⟩ 1 1 [.bool true, .string (bs ky), .string (bs [])] rfl rfl (cells_new3 _ _ _ _ _ _ (by simp)) (by simp [Value.oneCell']) (by unfold maxLen; omega) (by omega) (by simp; omega) ?_)
                  intro v' w5 hown5 hg _
                  have g5 : Kept w w5 := Below.grown (hk3.alloc _) hg (by simp; omega) HROW.out
                  rw [← HOP.out] at hown5
                  go_wp2_with fail
                  go_roundw
                  case rel => exact ⟨k + 1, L ++ [⟨true, ky, []⟩], r1, by omega, by go_num, rfl, by simp [hL], HN, HSN, by omega, hown5, g5⟩
                  case measure => simp [intOf]; omega
                · have q1 : ((c.toNat : Int) == 1) = false := by
                    rw [beq_eq_false_iff_ne]
                    intro e
                    exact hc (UInt8.toNat_inj.1 (by show c.toNat = 1; omega))
                  cases ht2 : Bt.takeT r1 with
                  | none =>
                    have hO : O = none := by rw [HO.out, hck, Bt.rtakeL_none (by unfold Bt.rtake1; simp [ht, ht2, hc])]; rfl
                    have hDn : D = none := by rw [← HD.out, hO]; rfl
                    subst hDn
                    have HT2 := Lib.hid (rtaken_none ht2 hr1)
                    clear HO hck hO HD ht ht2 ez
                    go_wp2_with fail
                    rw [HX1.out]
                    refine (HT.out _).mono ?_
                    rintro e w3 ⟨rfl, g3⟩
                    have hb3 := blk_kept (blk_new wr _ _) g3
                    obtain ⟨⟨p0, p1, p2⟩, f0, f1, f2⟩ := three_cells hb3
                    have hk3 : Kept w (w3.setCell ⟨wr.heap.size, 1, none⟩ (.string (bs ky))) := Below.setCell (kept_trans hkr (kept_trans ((Kept.refl wr).alloc _) g3)) (p := ⟨wr.heap.size, 1, none⟩) hbase _
                    have hb4 := bset hb3 1 (.string (bs ky))
                    have HB4 := Lib.hid hb4
                    clear hb3 hb4
                    go_wp2_with fail
                    refine (HT2.out _).mono ?_
                    rintro e w4 ⟨rfl, g4⟩
                    have hb5 : w4.heap[wr.heap.size]? = some (.cells #[.bool false, .string (bs ky), .string ⟨#[]⟩] 34 (0, 0)) := blk_kept HB4.out g4
                    clear p0 p1 p2 f0 f1 f2
                    obtain ⟨⟨p0, p1, p2⟩, f0, f1, f2⟩ := three_cells hb5
                    clear hb5
                    go_wp2_with fail
                    go_ret3
                    exact .inr ⟨rfl, rfl, Below.setCell (kept_trans hk3 g4) (p := ⟨wr.heap.size, 2, none⟩) hbase _⟩
                  | some y =>
                    obtain ⟨vl, r2⟩ := y
                    obtain ⟨tl3, tl4⟩ := Bt.takeT_less ht2
                    have h1 : Bt.rtake1 (c :: r) = some (⟨false, ky, vl⟩, r2) := by unfold Bt.rtake1; simp [ht, ht2, hc]
                    have hO : O = more (L ++ [⟨false, ky, vl⟩]) (Bt.rtakeL (C - (k + 1)) r2) := by rw [HO.out, hck, rtakeL_some L h1]
                    have HN := Lib.hid hO
                    have hsan : Sane (L ++ [⟨false, ky, vl⟩]) := fun x hx => by
                      rcases List.mem_append.1 hx with hx | hx
                      · exact HSL.out x hx
                      · simp at hx; subst hx; unfold maxLen; simp only; omega
                    have HSN := Lib.hid hsan
                    have hop := opc_snoc L ⟨false, ky, vl⟩
                    have HOP := Lib.hid hop
                    have HT2 := Lib.hid (rtaken_some ht2 hr1)
                    clear HO hck hO h1 hsan hop ht ht2 ez hc
                    go_wp2_with fail
                    rw [HX1.out]
                    refine (HT.out _).mono ?_
                    rintro e w3 ⟨rfl, g3⟩
                    have hb3 := blk_kept (blk_new wr _ _) g3
                    obtain ⟨⟨p0, p1, p2⟩, f0, f1, f2⟩ := three_cells hb3
                    have hown3 := own_set (own_kept (hown.alloc _) g3) HNE.out 1 (.string (bs ky))
                    have hk3 : Kept w (w3.setCell ⟨wr.heap.size, 1, none⟩ (.string (bs ky))) := Below.setCell (kept_trans hkr (kept_trans ((Kept.refl wr).alloc _) g3)) (p := ⟨wr.heap.size, 1, none⟩) hbase _
                    have hsz3 : w.heap.size ≤ w3.heap.size := by have := Below.size g3; simp at this; omega
                    have hb4 := bset hb3 1 (.string (bs ky))
                    have HB4 := Lib.hid hb4
                    clear hb3 hb4 hown
                    go_wp2_with fail
                    refine (HT2.out _).mono ?_
                    rintro e w4 ⟨rfl, g4⟩
                    have hb5 : w4.heap[wr.heap.size]? = some (.cells #[.bool false, .string (bs ky), .string ⟨#[]⟩] 34 (0, 0)) := blk_kept HB4.out g4
                    clear p0 p1 p2 f0 f1 f2
                    obtain ⟨⟨p0, p1, p2⟩, f0, f1, f2⟩ := three_cells hb5
                    clear hb5
                    have hown4 := own_set (own_kept hown3 g4) HNE.out 2 (.string (bs vl))
                    have hk4 : Kept w (w4.setCell ⟨wr.heap.size, 2, none⟩ (.string (bs vl))) := Below.setCell (kept_trans hk3 g4) (p := ⟨wr.heap.size, 2, none⟩) hbase _
                    have hsz4 : w.heap.size ≤ w4.heap.size := by have := Below.size g4; simp at this; omega
                    clear hown3
                    go_wp2_with (at_builtin; refine wpList_append_own _ rfl _ _ 23 rfl w.heap.size 34 i0 zop 3 40 Try.underlying23 HI.out HZ0.out HZ1.out HZ2.out rfl (by decide) u12 k (opc L) rfl (hown4.alloc _) ⟨w4.heap.size, 0, none⟩ 1 1 [.bool false, .string (bs ky), .string (bs vl)] rfl rfl (cells_new3 _ _ _ _ _ _ (by simp)) (by simp [Value.oneCell']) (by unfold maxLen; omega) (by omega) (by simp; omega) ?_)
                    intro v' w5 hown5 hg _
                    have g5 : Kept w w5 := Below.grown (hk4.alloc _) hg (by simp; omega) HROW.out
                    rw [← HOP.out] at hown5
                    go_wp2_with fail
                    go_roundw
                    case rel => exact ⟨k + 1, L ++ [⟨false, ky, vl⟩], r2, by omega, by go_num, rfl, by simp [hL], HN, HSN, by omega, hown5, g5⟩
                    case measure => simp [intOf]; omega
          · have e : k = C := by omega
            subst e
            have hO : O = some (L, Q) := by rw [HO.out, Nat.sub_self]; simp [more, Bt.rtakeL]
            subst hO
            clear HO
            obtain ⟨A, c, rfl, hkl, hops⟩ := ops_own hown
            have hL16 : L.length ≤ 16 := by omega
            clear hkl hL
            have hd := HD.out
            have hD2 : D = if Bt.ok n L = true ∧ Bt.enc n L = R then some (n, L) else none := by rw [← hd]; rfl
            cases hok : Bt.ok n L with
            | false =>
              have hDn : D = none := by rw [hD2, hok]; simp
              subst hDn
              have HE := Lib.hid (rencode_not (n : Int) A c L (by omega) (by omega) (by unfold maxLen; omega) HSL.out (by rw [Int.toNat_natCast]; exact hok) wr hops)
              clear HD hd hD2 hok hown
              go_wp2_with fail
              refine HE.out.mono ?_
              rintro e w6 ⟨E, rfl, hE0, g6⟩
              have hE1 : E ≠ 0 := by simpa using hE0
              have hE2 : (E != 0) = true := by simp [bne, hE0]
              go_wp2_with fail
              go_ret3
              exact .inr ⟨rfl, rfl, kept_trans hkr g6⟩
            | true =>
              have he := rencode_ok (n : Int) A c L (by omega) (by omega) (by rw [Int.toNat_natCast]; exact hok) wr hops
              rw [Int.toNat_natCast] at he
              have HE := Lib.hid he
              by_cases heq : Bt.enc n L = R
              · have hDs : D = some (n, L) := by rw [hD2, if_pos ⟨hok, heq⟩]
                subst hDs
                have q1 : ((bs (Bt.enc n L)).toList == (bs R).toList) = true := by rw [bs_eq]; exact decide_eq_true heq
                have q2 : ((bs (Bt.enc n L)).toList != (bs R).toList) = false := by simp [bne, q1]
                clear HD hd hD2 hok hown he heq
                go_wp2_with fail
                refine HE.out.mono ?_
                rintro e w6 ⟨rfl, g6⟩
                go_wp2_with fail
                go_ret3
                exact .inl ⟨n, L, A, c, rfl, rfl, hops.kept g6, kept_trans hkr g6⟩
              · have hDn : D = none := by rw [hD2, if_neg (fun h => heq h.2)]
                subst hDn
                have q1 : ((bs (Bt.enc n L)).toList == (bs R).toList) = false := by rw [bs_eq]; exact decide_eq_false heq
                have q2 : ((bs (Bt.enc n L)).toList != (bs R).toList) = true := by simp [bne, q1]
                clear HD hd hD2 hok hown he heq
                go_wp2_with fail
                refine HE.out.mono ?_
                rintro e w6 ⟨rfl, g6⟩
                go_wp2_with fail
                go_ret3
                exact .inr ⟨rfl, rfl, kept_trans hkr g6⟩
end Go.Proofs.Ytalcmiaohclnjaa
