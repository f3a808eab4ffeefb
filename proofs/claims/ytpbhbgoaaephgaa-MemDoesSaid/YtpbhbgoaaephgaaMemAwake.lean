/-
  What the laws of layer 7 share: the list of puts that comes in, which entries are looked at, the document's own order and sameness, and the calls whose answers the document fixes.
-/
import Derived.Test.YtpbhbgoaaephgaaMemList
import Derived.Test.YtpbhbgoaaephgaaMemPutAny
import Derived.Deep.Slices
import Derived.Deep.Fields
import Derived.ChangeSame
import Derived.OpenShut
namespace Go.Proofs.Ytpbhbgoaaephgaa
open Go.ChangeShapes Go.WideShapes Go.ChangeAt Go.RowKit
set_option linter.unusedVariables false
set_option maxRecDepth 100000
set_option maxHeartbeats 1000000

theorem mlarge_any (x : Mm.Ent) (w : World) (hk : x.key.length ≤ maxLen) (hv : x.val.length ≤ maxLen) :
    Calls Try.prog 26 #[entV x] w fun e w' => e = .returned (.bool (decide (300 < x.key.length) || decide (300 < x.val.length))) ∧ Kept w w' := by
  unfold entV
  unfold maxLen at hk hv
  have e1 := mbs_size x.key; have e2 := mbs_size x.val
  by_cases h : 300 < x.key.length
  · rw [decide_eq_true h]
    have d1 : decide ((300 : Int) < ((bs x.key).size : Int)) = true := by rw [e1]; simp; omega
    clear e1 e2
    go_enter Try.func26, Try.ntmps26
    go_wp2_with fail
    go_ret
    exact ⟨rfl, (Kept.refl _).alloc _⟩
  · rw [decide_eq_false h]
    have d1 : decide ((300 : Int) < ((bs x.key).size : Int)) = false := by rw [e1]; simp; omega
    have d2 : decide (300 < x.val.length) = decide ((300 : Int) < ((bs x.val).size : Int)) := by rw [e2, Bool.eq_iff_iff, decide_eq_true_iff, decide_eq_true_iff]; omega
    rw [d2]
    clear e1 e2 d2
    go_enter Try.func26, Try.ntmps26
    go_wp2_with fail
    go_ret
    exact ⟨rfl, (Kept.refl _).alloc _⟩
theorem rahead_any (k : List UInt8) (s : Nat) (k' : List UInt8) (s' : Nat) (w : World) :
    Calls Try.prog 74 #[.string (bs k), .int .u64 (s : Nat), .string (bs k'), .int .u64 (s' : Nat)] w fun e w' => e = .returned (.bool (Mm.ahd k s k' s')) ∧ w = w' := by
  have e1 := mbs_less k k'
  have e2 := mbs_eq k k'
  unfold Mm.ahd
  by_cases h : k = k'
  · rw [decide_eq_false (by rw [h]; exact Mm.lt_irrefl _)] at e1
    rw [decide_eq_true h] at e2
    rw [if_pos h]
    clear h
    go_enter Try.func74, Try.ntmps74
    go_wp2_with fail
    go_ret
    exact ⟨ret_bool (by simp), rfl⟩
  · rw [decide_eq_false h] at e2
    rw [if_neg h]
    by_cases hl : k < k'
    · rw [decide_eq_true hl] at e1 ⊢
      clear h hl
      go_enter Try.func74, Try.ntmps74
      go_wp2_with fail
      go_ret
      exact ⟨rfl, rfl⟩
    · rw [decide_eq_false hl] at e1 ⊢
      clear h hl
      go_enter Try.func74, Try.ntmps74
      go_wp2_with fail
      go_ret
      exact ⟨rfl, rfl⟩
theorem msame_any (A1 A2 : Option Addr) (c1 c2 : Nat) (l m : List Mm.Ent) (hl : l.length ≤ 1000) (hm : m.length ≤ 1000) (w : World) (h1 : Els w A1 l) (h2 : Els w A2 m) :
    Calls Try.prog 37 #[.slice A1 l.length c1, .slice A2 m.length c2] w fun e w' => e = .returned (.bool (decide (l = m))) ∧ ∃ q, w' = w.drewN q := by
  by_cases hlen : l.length = m.length
  · have d : ((l.length : Int) != (m.length : Int)) = false := by simp [hlen]
    have HLEN := Lib.hid hlen; clear hlen
    go_enter Try.func37, Try.ntmps37
    go_wp2_with fail
    go_loopw [5] (fun t wr => ∃ (k : Nat), k ≤ l.length ∧ t = .int .i64 k ∧ Hid (l.take k = m.take k) ∧ ∃ q, wr = w.drewN q) (fun t _ => l.length - (intOf t).toNat)
    case atStart => exact ⟨0, Nat.zero_le _, rfl, Lib.hid rfl, 0, rfl⟩
    case round =>
      obtain ⟨k, hk, rfl, HE, q, rfl⟩ := hrel
      by_cases hlt : k < l.length
      · have hlt2 : k < m.length := by have := HLEN.out; omega
        have hx : l[k]? = some l[k] := List.getElem?_eq_getElem hlt
        have hy : m[k]? = some m[k] := List.getElem?_eq_getElem hlt2
        generalize l[k] = x at hx
        generalize m[k] = y at hy
        obtain ⟨b1, o1, rfl, hb1, p0, p1, p2, p3⟩ := h1 k x hx
        obtain ⟨b2, o2, rfl, hb2, q0, q1, q2, q3⟩ := h2 k y hy
        by_cases hxy : x = y
        · subst hxy
          have hn : l.take (k + 1) = m.take (k + 1) := by rw [List.take_add_one, List.take_add_one, hx, hy, HE.out]
          have HN := Lib.hid hn
          clear hx hy hn
          go_wp2_with fail
          go_quiet (fail)
          go_wp2_with fail
          go_roundw
          case rel => exact ⟨k + 1, by omega, by go_num, HN, _, rfl⟩
          case measure => simp [intOf]; omega
        · have hne : l ≠ m := by
            rintro rfl
            rw [hx] at hy
            exact hxy (Option.some.inj hy)
          have hd : decide (l = m) = false := decide_eq_false hne
          have HD := Lib.hid hd
          clear hx hy hne hd
          obtain ⟨k1, s1, d1, v1⟩ := x
          obtain ⟨k2, s2, d2, v2⟩ := y
          simp only at p0 p1 p2 p3 q0 q1 q2 q3
          by_cases hkk : k1 = k2
          · subst hkk
            by_cases hss : s1 = s2
            · subst hss
              by_cases hdd : d1 = d2
              · subst hdd
                have hvv : v1 ≠ v2 := fun e => hxy (by rw [e])
                have e1 : ((bs v1).toList == (bs v2).toList) = false := by rw [mbs_eq]; exact decide_eq_false hvv
                clear hxy hvv
                go_wp2_with fail
                go_quiet (fail)
                go_wp2_with fail
                go_ret
                exact ⟨by rw [HD.out]; rfl, _, World.drewN_drewN ..⟩
              · have e1 : (d1 == d2) = false := by simpa using hdd
                clear hxy hdd
                go_wp2_with fail
                go_quiet (fail)
                go_wp2_with fail
                go_ret
                exact ⟨by rw [HD.out]; rfl, _, World.drewN_drewN ..⟩
            · have e1 : ((s1 : Int) == (s2 : Int)) = false := by rw [beq_eq_false_iff_ne]; omega
              clear hxy hss
              go_wp2_with fail
              go_quiet (fail)
              go_wp2_with fail
              go_ret
              exact ⟨by rw [HD.out]; rfl, _, World.drewN_drewN ..⟩
          · have e1 : ((bs k1).toList == (bs k2).toList) = false := by rw [mbs_eq]; exact decide_eq_false hkk
            clear hxy hkk
            go_wp2_with fail
            go_quiet (fail)
            go_wp2_with fail
            go_ret
            exact ⟨by rw [HD.out]; rfl, _, World.drewN_drewN ..⟩
      · have e : k = l.length := by omega
        subst e
        have he := HE.out
        rw [List.take_length, HLEN.out, List.take_length] at he
        have hd : decide (l = m) = true := decide_eq_true he
        have HD := Lib.hid hd
        clear he hd
        go_wp2_with fail
        go_ret
        exact ⟨by rw [HD.out]; rfl, _, rfl⟩
  · have d : ((l.length : Int) != (m.length : Int)) = true := by simp; omega
    have hd : decide (l = m) = false := decide_eq_false (fun e => hlen (by rw [e]))
    rw [hd]
    clear hd
    go_enter Try.func37, Try.ntmps37
    go_wp2_with fail
    go_ret
    exact ⟨rfl, 0, rfl⟩
theorem Els.at {w : World} {A : Option Addr} {x : Mm.Ent} {l : List Mm.Ent} (h : Els w A (x :: l)) : ∃ b o, A = some ⟨b, o, none⟩ ∧ b < w.heap.size ∧ ∀ (j : Nat) (y : Mm.Ent), (x :: l)[j]? = some y → w.cell? ⟨b, o + j * 4, none⟩ = some (.string (bs y.key)) ∧ w.cell? ⟨b, o + j * 4 + 1, none⟩ = some (.int .u64 (y.seq : Nat)) ∧ w.cell? ⟨b, o + j * 4 + 2, none⟩ = some (.bool y.del) ∧ w.cell? ⟨b, o + j * 4 + 3, none⟩ = some (.string (bs y.val)) := by
  obtain ⟨b, o, rfl, hb, _⟩ := h 0 x rfl
  refine ⟨b, o, rfl, hb, fun j y hy => ?_⟩
  obtain ⟨b', o', e, _, h1, h2, h3, h4⟩ := h j y hy
  cases e
  exact ⟨h1, h2, h3, h4⟩
/-- a put: an entry and its height -/
structure Pt where
  e : Mm.Ent
  h : Int
/-- a list of puts that lies in memory -/
def Puts (w : World) (A : Option Addr) (l : List Pt) : Prop := ∀ (j : Nat) (x : Pt), l[j]? = some x → ∃ b o, A = some ⟨b, o, none⟩ ∧ b < w.heap.size ∧ w.cell? ⟨b, o + j * 5, none⟩ = some (.string (bs x.e.key)) ∧ w.cell? ⟨b, o + j * 5 + 1, none⟩ = some (.int .u64 (x.e.seq : Nat)) ∧ w.cell? ⟨b, o + j * 5 + 2, none⟩ = some (.bool x.e.del) ∧ w.cell? ⟨b, o + j * 5 + 3, none⟩ = some (.string (bs x.e.val)) ∧ w.cell? ⟨b, o + j * 5 + 4, none⟩ = some (.int .i64 x.h)
theorem Puts.kept {w w' : World} {A : Option Addr} {l : List Pt} (h : Puts w A l) (k : Kept w w') : Puts w' A l := fun j x hx => by
  obtain ⟨b, o, e, hb, h0, h1, h2, h3, h4⟩ := h j x hx
  exact ⟨b, o, e, Nat.lt_of_lt_of_le hb (Below.size k), by rw [kept_cell k hb]; exact h0, by rw [kept_cell k hb]; exact h1, by rw [kept_cell k hb]; exact h2, by rw [kept_cell k hb]; exact h3, by rw [kept_cell k hb]; exact h4⟩
/-- what every put that comes in keeps to -/
def PutsOk (l : List Pt) : Prop := ∀ x ∈ l, x.e.key.length ≤ maxLen ∧ x.e.val.length ≤ maxLen ∧ (-9223372036854775808 ≤ x.h ∧ x.h ≤ 9223372036854775807) ∧ x.e.seq ≤ 18446744073709551615
theorem madd_at (b o i : Nat) : (⟨b, o, none⟩ : Addr).add i = ⟨b, o + i, none⟩ := by
  unfold Addr.add; split <;> simp_all
theorem madd_zero (a : Addr) : a.add 0 = a := by unfold Addr.add; simp
theorem maddr_at {w : World} {a : Addr} {v : Value} (h : w.cell? a = some v) : ∃ b o, a = ⟨b, o, none⟩ ∧ b < w.heap.size := by
  have hlt := World.block_lt_of_cell? w _ h
  obtain ⟨b, o, s⟩ := a
  cases s with
  | none => exact ⟨b, o, rfl, hlt⟩
  | some q =>
    unfold World.cell? at h
    split at h
    · simp at h
    · cases h
theorem mbs_self (s : ByteArray) : bs s.data.toList = s := (bs_of rfl).symm
theorem mtoList_size (s : ByteArray) : s.data.toList.length = s.size := by rw [Array.length_toList]; rfl
theorem mcellsPut : Try.prog.cellsOf 53 = 5 := by kernel_rfl
theorem mcellsEnt : Try.prog.cellsOf 51 = 4 := by kernel_rfl
theorem mcellsStr : Try.prog.cellsOf 9 = 1 := by kernel_rfl
theorem mcellsBool : Try.prog.cellsOf 4 = 1 := by kernel_rfl
theorem mcellsU64 : Try.prog.cellsOf 28 = 1 := by kernel_rfl
theorem mcellsInt : Try.prog.cellsOf 3 = 1 := by kernel_rfl
section
variable {H : Type} {enc : TypeId × Value → H} {w : World}
theorem open_ent {n : Nat} {v0 v1 v2 v3 : Value} {y : DataW H × List MemPlace} (ht : DataW.trod enc Try.prog w 0 (fun _ => true) true n 51 [v0, v1, v2, v3] = some y) :
    ∃ x : Mm.Ent, v0 = .string (bs x.key) ∧ v1 = .int .u64 (x.seq : Nat) ∧ v2 = .bool x.del ∧ v3 = .string (bs x.val) ∧ x.key.length ≤ maxLen ∧ x.val.length ≤ maxLen ∧ x.seq ≤ 18446744073709551615 := by
  obtain ⟨ys, n', _, _, _, hyl, hf⟩ := DataW.trod_struct Try.underlying51 ht
  have f0 := hf 0 _ rfl
  have f1 := hf 1 _ rfl
  have f2 := hf 2 _ rfl
  have f3 := hf 3 _ rfl
  change DataW.trod enc Try.prog w 0 (fun _ => true) true n' 9 (List.take (Try.prog.cellsOf 9) [v0, v1, v2, v3]) = _ at f0
  change DataW.trod enc Try.prog w 0 (fun _ => true) true n' 28 (List.take (Try.prog.cellsOf 28) [v1, v2, v3]) = _ at f1
  change DataW.trod enc Try.prog w 0 (fun _ => true) true n' 4 (List.take (Try.prog.cellsOf 4) [v2, v3]) = _ at f2
  change DataW.trod enc Try.prog w 0 (fun _ => true) true n' 9 (List.take (Try.prog.cellsOf 9) [v3]) = _ at f3
  rw [mcellsStr] at f0 f3
  rw [mcellsU64] at f1
  rw [mcellsBool] at f2
  simp only [List.take_succ_cons, List.take_zero] at f0 f1 f2 f3
  have hyl5 : ys.length = 4 := hyl
  rw [List.getElem?_eq_getElem (show 0 < ys.length by omega)] at f0
  rw [List.getElem?_eq_getElem (show 1 < ys.length by omega)] at f1
  rw [List.getElem?_eq_getElem (show 2 < ys.length by omega)] at f2
  rw [List.getElem?_eq_getElem (show 3 < ys.length by omega)] at f3
  obtain ⟨sa, e0, _, hsa⟩ := DataW.trod_string Try.underlying9 f0
  obtain ⟨nn, e1, _, hnn⟩ := DataW.trod_int Try.underlying28 f1
  obtain ⟨d, e2, _⟩ := DataW.trod_bool Try.underlying4 f2
  obtain ⟨sb, e3, _, hsb⟩ := DataW.trod_string Try.underlying9 f3
  injection e0 with e0; injection e1 with e1; injection e2 with e2; injection e3 with e3
  have hb := bounds_u64 hnn
  refine ⟨⟨sa.data.toList, nn.toNat, d, sb.data.toList⟩, by rw [e0, mbs_self], ?_, e2, by rw [e3, mbs_self], by simp only [mtoList_size]; exact hsa, by simp only [mtoList_size]; exact hsb, by simp only; omega⟩
  rw [e1, show ((nn.toNat : Nat) : Int) = nn by omega]
theorem open_put {n : Nat} {b o : Nat} {cs : List Value} {y : DataW H × List MemPlace} (hcl : cs.length = 5) (hat : ∀ j, j < 5 → w.cell? ⟨b, o + j, none⟩ = cs[j]?) (ht : DataW.trod enc Try.prog w 0 (fun _ => true) true n 53 cs = some y) :
    ∃ x : Pt, (w.cell? ⟨b, o, none⟩ = some (.string (bs x.e.key)) ∧ w.cell? ⟨b, o + 1, none⟩ = some (.int .u64 (x.e.seq : Nat)) ∧ w.cell? ⟨b, o + 2, none⟩ = some (.bool x.e.del) ∧ w.cell? ⟨b, o + 3, none⟩ = some (.string (bs x.e.val)) ∧ w.cell? ⟨b, o + 4, none⟩ = some (.int .i64 x.h)) ∧ x.e.key.length ≤ maxLen ∧ x.e.val.length ≤ maxLen ∧ (-9223372036854775808 ≤ x.h ∧ x.h ≤ 9223372036854775807) ∧ x.e.seq ≤ 18446744073709551615 := by
  obtain ⟨ys, n', _, _, _, hyl, hf⟩ := DataW.trod_struct Try.underlying53 ht
  match cs, hcl with
  | [v0, v1, v2, v3, v4], _ =>
    have f0 := hf 0 _ rfl
    have f1 := hf 1 _ rfl
    change DataW.trod enc Try.prog w 0 (fun _ => true) true n' 51 (List.take (Try.prog.cellsOf 51) [v0, v1, v2, v3, v4]) = _ at f0
    change DataW.trod enc Try.prog w 0 (fun _ => true) true n' 3 (List.take (Try.prog.cellsOf 3) [v4]) = _ at f1
    rw [mcellsEnt] at f0
    rw [mcellsInt] at f1
    simp only [List.take_succ_cons, List.take_zero] at f0 f1
    have hyl5 : ys.length = 2 := hyl
    rw [List.getElem?_eq_getElem (show 0 < ys.length by omega)] at f0
    rw [List.getElem?_eq_getElem (show 1 < ys.length by omega)] at f1
    obtain ⟨x, e0, e1, e2, e3, q1, q2, q3⟩ := open_ent f0
    obtain ⟨nn, e4, _, hnn⟩ := DataW.trod_int Try.underlying3 f1
    injection e4 with e4
    subst e0 e1 e2 e3 e4
    exact ⟨⟨x, nn⟩, ⟨hat 0 (by omega), hat 1 (by omega), hat 2 (by omega), hat 3 (by omega), hat 4 (by omega)⟩, q1, q2, bounds_i64 hnn, q3⟩
/-- a list of puts that comes in -/
theorem open_puts {fuel : Nat} {cs : List Value} {x : DataW H × List MemPlace} (h : DataW.trod enc Try.prog w 0 (fun _ => true) true fuel 42 cs = some x) :
    ∃ (A : Option Addr) (cap : Nat) (l : List Pt), cs = [.slice A l.length cap] ∧ Puts w A l ∧ l.length ≤ maxLen ∧ PutsOk l := by
  rcases Deep.open_slice Try.underlying42 h with ⟨rfl, _⟩ | ⟨a, len, cap, m, n, D, Pl, rfl, _, hl, hm, hmm, _, hi⟩
  · exact ⟨none, 0, [], rfl, fun j x hx => by simp at hx, by simp, fun x hx => by simp at hx⟩
  · rw [if_pos rfl] at hmm
    rw [mcellsPut] at hi
    have key : ∀ i, i < len → ∃ (x : Pt) (b o : Nat), a = ⟨b, o, none⟩ ∧ b < w.heap.size ∧ (w.cell? ⟨b, o + i * 5, none⟩ = some (.string (bs x.e.key)) ∧ w.cell? ⟨b, o + i * 5 + 1, none⟩ = some (.int .u64 (x.e.seq : Nat)) ∧ w.cell? ⟨b, o + i * 5 + 2, none⟩ = some (.bool x.e.del) ∧ w.cell? ⟨b, o + i * 5 + 3, none⟩ = some (.string (bs x.e.val)) ∧ w.cell? ⟨b, o + i * 5 + 4, none⟩ = some (.int .i64 x.h)) ∧ x.e.key.length ≤ maxLen ∧ x.e.val.length ≤ maxLen ∧ (-9223372036854775808 ≤ x.h ∧ x.h ≤ 9223372036854775807) ∧ x.e.seq ≤ 18446744073709551615 := fun i hil => by
      obtain ⟨cs0, hc0, _⟩ := hi 0 (by omega)
      obtain ⟨_, hcl0, hat0⟩ := World.cells?_some hc0
      have h00 := hat0 0 (by omega)
      rw [Nat.zero_mul, madd_zero, madd_zero, List.getElem?_eq_getElem (show 0 < cs0.length by omega)] at h00
      obtain ⟨b, o, rfl, hbl⟩ := maddr_at h00
      obtain ⟨cs', hc, ht⟩ := hi i (by omega)
      obtain ⟨_, hcl, hat⟩ := World.cells?_some hc
      obtain ⟨x, hx⟩ := open_put (o := o + i * 5) hcl (fun j hj => by rw [← hat j hj, madd_at, madd_at]) ht
      exact ⟨x, b, o, rfl, hbl, hx⟩
    have hch : ∀ i, ∃ x : Pt, i < len → ∃ b o, a = ⟨b, o, none⟩ ∧ b < w.heap.size ∧ (w.cell? ⟨b, o + i * 5, none⟩ = some (.string (bs x.e.key)) ∧ w.cell? ⟨b, o + i * 5 + 1, none⟩ = some (.int .u64 (x.e.seq : Nat)) ∧ w.cell? ⟨b, o + i * 5 + 2, none⟩ = some (.bool x.e.del) ∧ w.cell? ⟨b, o + i * 5 + 3, none⟩ = some (.string (bs x.e.val)) ∧ w.cell? ⟨b, o + i * 5 + 4, none⟩ = some (.int .i64 x.h)) ∧ x.e.key.length ≤ maxLen ∧ x.e.val.length ≤ maxLen ∧ (-9223372036854775808 ≤ x.h ∧ x.h ≤ 9223372036854775807) ∧ x.e.seq ≤ 18446744073709551615 := fun i => by
      by_cases hil : i < len
      · obtain ⟨x, r⟩ := key i hil
        exact ⟨x, fun _ => r⟩
      · exact ⟨⟨Mm.zent, 0⟩, fun hh => absurd hh hil⟩
    obtain ⟨f, hf⟩ := Classical.axiomOfChoice hch
    have hlen : ((List.range len).map f).length = len := by simp
    have hat : ∀ i x, ((List.range len).map f)[i]? = some x → i < len ∧ f i = x := fun i x hx => by
      have hil : i < len := by
        have := (List.getElem?_eq_some_iff.1 hx).1
        rw [hlen] at this; exact this
      exact ⟨hil, by simpa [hil] using hx⟩
    refine ⟨some a, cap, (List.range len).map f, by rw [hlen], fun i x hx => ?_, by rw [hlen]; omega, fun x hx => ?_⟩
    · obtain ⟨hil, hfx⟩ := hat i x hx
      obtain ⟨b, o, e, hb, hc, _⟩ := hf i hil
      rw [hfx] at hc
      exact ⟨b, o, by rw [e], hb, hc⟩
    · obtain ⟨i, hi'⟩ := List.getElem?_of_mem hx
      obtain ⟨hil, hfx⟩ := hat i x hi'
      obtain ⟨b, o, e, hb, _, hc⟩ := hf i hil
      rw [hfx] at hc
      exact hc
end
/-- a table that a law has made -/
structure Ts (W w : World) (p : Nat) (T : List Mm.Tv) : Prop where
  tab : Tab w p (fun b => W.heap.size ≤ b) T
  kept : Kept W w
theorem Ts.more {W w w' : World} {p : Nat} {T : List Mm.Tv} (h : Ts W w p T) (k : Kept w w') : Ts W w' p T := ⟨h.tab.kept k, kept_trans h.kept k⟩
theorem ts_new {W w : World} (k : Kept W w) : Calls Try.prog 25 #[] w fun e w' => e = .returned (.pointer (some ⟨w.heap.size, 0, none⟩)) ∧ Ts W w' w.heap.size [] :=
  (mnew_any w).mono fun e w' ⟨h1, h2, h3, h4⟩ => ⟨h1, h2.mono (fun b _ hb => by rw [hb]; exact Below.size k), kept_trans k h4⟩
theorem Ts.put {W w : World} {p : Nat} {T : List Mm.Tv} (h : Ts W w p T) (hf : T.length < 1000) (e : Mm.Ent) (x : Int) (hk : e.key.length ≤ maxLen) (hv : e.val.length ≤ maxLen) :
    Calls Try.prog 27 #[.pointer (some ⟨p, 0, none⟩), entV e, .int .i64 x] w fun r w' => r = .returned (.int .i64 (Mm.code T e x)) ∧ Ts W w' p (Mm.put T e x) :=
  (mput_any h.tab hf e x hk hv).mono fun r w' ⟨h1, h2, h3⟩ => ⟨h1, h2.mono (fun b _ hb => by
    rcases hb with hb | hb
    · exact hb
    · exact Nat.le_trans (Below.size h.kept) hb), by
      have h4 := h3.below (Below.size h.kept) (fun i hi => hi)
      exact Below.trans h.kept h4⟩
end Go.Proofs.Ytpbhbgoaaephgaa
