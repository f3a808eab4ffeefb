/-
  Entries and Size of package batch, and whether two lists of operations are the same (the document's own Same).
-/
import Derived.Test.YtalcmiaohclnjaaBatchDec
import Derived.Test.YtalcmiaohclnjaaNumRefTake
namespace Go.Proofs.Ytalcmiaohclnjaa
open Go.ChangeShapes Go.WideShapes Go.ChangeAt Go.RowKit
set_option linter.unusedVariables false
set_option maxHeartbeats 1000000

theorem bs_inj {a b : List UInt8} : bs a = bs b ↔ a = b := ⟨fun h => by have := congrArg (fun s => s.data.toList) h; simpa [bs] using this, fun h => by rw [h]⟩
theorem bs_eq (a b : List UInt8) : ((bs a).toList == (bs b).toList) = decide (a = b) := by
  rw [Lib.toList_data, Lib.toList_data, bs_data, bs_data]
  by_cases h : a = b
  · rw [decide_eq_true h, h]; simp
  · rw [decide_eq_false h]; simpa using h
theorem same_quiet (A1 A2 : Option Addr) (c1 c2 : Nat) (l m : List Bt.Op) (hl : l.length ≤ maxLen) (hm : m.length ≤ maxLen) (w : World) (h1 : Ops w A1 l) (h2 : Ops w A2 m) :
    Calls Try.prog 19 #[.slice A1 l.length c1, .slice A2 m.length c2] w fun e w' => e = .returned (.bool (decide (l = m))) ∧ ∃ q, w' = w.drewN q := by
  unfold maxLen at hl hm
  by_cases hlen : l.length = m.length
  · have d : ((l.length : Int) != (m.length : Int)) = false := by simp [hlen]
    have HLEN := Lib.hid hlen; clear hlen
    go_enter Try.func19, Try.ntmps19
    go_wp2_with fail
    go_loopw [5] (fun t wr => ∃ (k : Nat), k ≤ l.length ∧ t = .int .i64 k ∧ Hid (l.take k = m.take k) ∧ ∃ q, wr = w.drewN q) (fun t _ => l.length - (intOf t).toNat)
    case atStart => exact ⟨0, Nat.zero_le _, rfl, Lib.hid rfl, 0, rfl⟩
    case round =>
      obtain ⟨k, hk, rfl, HE, q, rfl⟩ := hrel
      by_cases hlt : k < l.length
      · have hlt2 : k < m.length := by have := HLEN.out; omega
        have hx : l[k]? = some l[k] := List.getElem?_eq_getElem hlt
        have hy : m[k]? = some m[k] := List.getElem?_eq_getElem hlt2
        generalize l[k] = x at hx
        generalize m[k] = y at hy
        obtain ⟨b1, o1, rfl, hb1, p0, p1, p2⟩ := h1 k x hx
        obtain ⟨b2, o2, rfl, hb2, q0, q1, q2⟩ := h2 k y hy
        by_cases hxy : x = y
        · subst hxy
          have hn : l.take (k + 1) = m.take (k + 1) := by rw [List.take_add_one, List.take_add_one, hx, hy, HE.out]
          have HN := Lib.hid hn
          clear hx hy hn
          go_wp2_with fail
          go_quiet (fail)
          go_wp2_with fail
          go_roundw
          case rel => exact ⟨k + 1, by omega, by go_num, HN, _, rfl⟩
          case measure => simp [intOf]; omega
        · have hne : l ≠ m := by
            rintro rfl
            rw [hx] at hy
            exact hxy (Option.some.inj hy)
          have hd : decide (l = m) = false := decide_eq_false hne
          have HD := Lib.hid hd
          clear hx hy hne hd
          obtain ⟨d1, k1, v1⟩ := x
          obtain ⟨d2, k2, v2⟩ := y
          simp only at p0 p1 p2 q0 q1 q2
          by_cases hdd : d1 = d2
          · subst hdd
            by_cases hkk : k1 = k2
            · subst hkk
              have hvv : v1 ≠ v2 := fun e => hxy (by rw [e])
              have e1 : ((bs v1).toList == (bs v2).toList) = false := by rw [bs_eq]; exact decide_eq_false hvv
              clear hxy hvv
              go_wp2_with fail
              go_quiet (fail)
              go_wp2_with fail
              go_ret
              exact ⟨by rw [HD.out]; rfl, _, World.drewN_drewN ..⟩
            · have e1 : ((bs k1).toList == (bs k2).toList) = false := by rw [bs_eq]; exact decide_eq_false hkk
              clear hxy hkk
              go_wp2_with fail
              go_quiet (fail)
              go_wp2_with fail
              go_ret
              exact ⟨by rw [HD.out]; rfl, _, World.drewN_drewN ..⟩
          · have e1 : (d1 == d2) = false := by simpa using hdd
            clear hxy hdd
            go_wp2_with fail
            go_quiet (fail)
            go_wp2_with fail
            go_ret
            exact ⟨by rw [HD.out]; rfl, _, World.drewN_drewN ..⟩
      · have e : k = l.length := by omega
        subst e
        have he := HE.out
        rw [List.take_length, HLEN.out, List.take_length] at he
        have hd : decide (l = m) = true := decide_eq_true he
        have HD := Lib.hid hd
        clear he hd
        go_wp2_with fail
        go_ret
        exact ⟨by rw [HD.out]; rfl, _, rfl⟩
  · have d : ((l.length : Int) != (m.length : Int)) = true := by simp; omega
    have hd : decide (l = m) = false := decide_eq_false (fun e => hlen (by rw [e]))
    rw [hd]
    clear hd
    go_enter Try.func19, Try.ntmps19
    go_wp2_with fail
    go_ret
    exact ⟨rfl, 0, rfl⟩
theorem same_any (A1 A2 : Option Addr) (c1 c2 : Nat) (l m : List Bt.Op) (hl : l.length ≤ maxLen) (hm : m.length ≤ maxLen) (w : World) (h1 : Ops w A1 l) (h2 : Ops w A2 m) :
    Calls Try.prog 19 #[.slice A1 l.length c1, .slice A2 m.length c2] w fun e w' => e = .returned (.bool (decide (l = m))) ∧ Kept w w' :=
  (same_quiet A1 A2 c1 c2 l m hl hm w h1 h2).mono fun e w' ⟨h, q, hq⟩ => ⟨h, by rw [hq]; exact kept_drewN w q⟩
theorem size_step {l : List Bt.Op} {k : Nat} {x : Bt.Op} (hx : l[k]? = some x) : Bt.size (l.take (k + 1)) = Bt.size (l.take k) + (x.key.length + x.val.length) := by rw [ballsnoc hx, Bt.size_snoc]
/-- none of the operations is too large to be looked at -/
def Few (l : List Bt.Op) : Prop := l.length ≤ 40 ∧ ∀ x ∈ l, x.key.length ≤ 300 ∧ x.val.length ≤ 300
theorem Few.sane {l : List Bt.Op} (h : Few l) : Sane l := fun x hx => by have := h.2 x hx; unfold maxLen; omega
theorem size_le {l : List Bt.Op} (h : ∀ x ∈ l, x.key.length ≤ 300 ∧ x.val.length ≤ 300) : Bt.size l ≤ 600 * l.length := by
  induction l with
  | nil => simp [Bt.size]
  | cons x l ih =>
    have h1 := h x List.mem_cons_self
    have h2 := ih (fun y hy => h y (List.mem_cons_of_mem _ hy))
    simp only [Bt.size, List.map_cons, List.sum_cons, List.length_cons] at *
    omega
theorem size_any (A : Option Addr) (c : Nat) (l : List Bt.Op) (hf : Few l) (w : World) (hA : Ops w A l) :
    Calls Try.prog 18 #[.slice A l.length c] w fun e w' => e = .returned (.int .i64 (Bt.size l)) ∧ Kept w w' := by
  have h40 := hf.1
  have HS := Lib.hid (fun k x (hx : l[k]? = some x) => size_step hx)
  have HM := Lib.hid (fun k => size_le (l := l.take k) (fun x hx => hf.2 x (List.mem_of_mem_take hx)))
  have HF := Lib.hid hf.2
  clear hf
  go_enter Try.func18, Try.ntmps18
  go_wp2_with fail
  go_loopw [3, 8] (fun z t wr => ∃ (k : Nat), k ≤ l.length ∧ t = .int .i64 k ∧ z = .int .i64 (Bt.size (l.take k) : Nat) ∧ Kept w wr) (fun _ t _ => l.length - (intOf t).toNat)
  case atStart => exact ⟨0, Nat.zero_le _, rfl, rfl, Kept.refl _⟩
  case round =>
    obtain ⟨k, hk, rfl, rfl, hkr⟩ := hrel
    by_cases hlt : k < l.length
    · obtain ⟨x, hx⟩ : ∃ x, l[k]? = some x := ⟨_, List.getElem?_eq_getElem hlt⟩
      obtain ⟨b, o, rfl, hb, c0, c1, c2⟩ := (hA.kept hkr) k x hx
      have hst := HS.out k x hx
      have hz := HF.out x (List.mem_of_getElem? hx)
      have hb1 := HM.out k
      rw [List.length_take] at hb1
      have z1 : (bs x.key).size ≤ 300 := by rw [fbs_size]; exact hz.1
      have z2 : (bs x.val).size ≤ 300 := by rw [fbs_size]; exact hz.2
      have hst2 : (Bt.size (l.take (k + 1)) : Int) = (Bt.size (l.take k) : Int) + (((bs x.key).size : Int) + ((bs x.val).size : Int)) := by rw [hst, fbs_size, fbs_size]; omega
      have hbd : Bt.size (l.take k) ≤ 24000 := by omega
      have HST := Lib.hid hst2
      clear hst hx hst2 hb1
      generalize Bt.size (l.take k) = S at *
      go_wp2_with fail
      go_roundw
      case rel => exact ⟨k + 1, by omega, by go_num, by rw [HST.out], kept_trans hkr ((Kept.refl _).alloc _)⟩
      case measure => simp [intOf]; omega
    · have e : k = l.length := by omega
      subst e
      rw [List.take_length]
      go_wp2_with fail
      go_ret
      exact ⟨rfl, hkr⟩
/-- what an operation does, as cells -/
def ent (n : Nat) (x : Bt.Op) : List Value := [.string (bs x.key), .int .u64 (md n : Nat), .bool x.del, .string (bs x.val)]
def entc : Nat → List Bt.Op → List Value
  | _, [] => []
  | n, x :: l => ent n x ++ entc (n + 1) l
theorem entc_len : ∀ (n : Nat) (l : List Bt.Op), (entc n l).length = l.length * 4
  | n, [] => rfl
  | n, x :: l => by simp only [entc, List.length_append, entc_len, ent, List.length_cons, List.length_nil]; omega
theorem entc_snoc : ∀ (n : Nat) (l : List Bt.Op) (x : Bt.Op), entc n (l ++ [x]) = entc n l ++ ent (n + l.length) x
  | n, [], x => by simp [entc]
  | n, y :: l, x => by simp only [List.cons_append, entc, entc_snoc, List.append_assoc, List.length_cons]; rw [show n + 1 + l.length = n + (l.length + 1) by omega]
theorem entc_get : ∀ {n : Nat} {l : List Bt.Op} {j : Nat} {x : Bt.Op}, l[j]? = some x → ∀ i u, (ent (n + j) x)[i]? = some u → (entc n l)[j * 4 + i]? = some u
  | n, [], j, x, h, _, _, _ => by simp at h
  | n, y :: l, 0, x, h, i, u, hu => by
    simp at h; subst h
    have hi := (List.getElem?_eq_some_iff.1 hu).1
    rw [Nat.zero_mul, Nat.zero_add, entc, List.getElem?_append_left (by exact hi)]
    exact hu
  | n, y :: l, j + 1, x, h, i, u, hu => by
    have := entc_get (n := n + 1) (l := l) (j := j) (x := x) (by simpa using h) i u (by rw [show n + 1 + j = n + (j + 1) by omega]; exact hu)
    rw [entc, List.getElem?_append_right (by simp [ent]; omega)]
    simp only [ent, List.length_cons, List.length_nil]
    rw [show (j + 1) * 4 + i - (0 + 1 + 1 + 1 + 1) = j * 4 + i by omega]
    exact this
/-- a list in memory of what operations do, the first one with the number n -/
def Ents (w : World) (A : Option Addr) (n : Nat) (l : List Bt.Op) : Prop := ∀ (j : Nat) (x : Bt.Op), l[j]? = some x → ∃ b o, A = some ⟨b, o, none⟩ ∧ b < w.heap.size ∧ w.cell? ⟨b, o + j * 4, none⟩ = some (.string (bs x.key)) ∧ w.cell? ⟨b, o + j * 4 + 1, none⟩ = some (.int .u64 (md (n + j) : Nat)) ∧ w.cell? ⟨b, o + j * 4 + 2, none⟩ = some (.bool x.del) ∧ w.cell? ⟨b, o + j * 4 + 3, none⟩ = some (.string (bs x.val))
theorem Ents.kept {w w' : World} {A : Option Addr} {n : Nat} {l : List Bt.Op} (h : Ents w A n l) (k : Kept w w') : Ents w' A n l := fun j x hx => by
  obtain ⟨b, o, e, hb, h0, h1, h2, h3⟩ := h j x hx
  exact ⟨b, o, e, Nat.lt_of_lt_of_le hb (Below.size k), by rw [kept_cell k hb]; exact h0, by rw [kept_cell k hb]; exact h1, by rw [kept_cell k hb]; exact h2, by rw [kept_cell k hb]; exact h3⟩
theorem ents_own {w : World} {base n N : Nat} {v : Value} {l : List Bt.Op} (h : w.ownsRow base 32 4 v n (entc N l)) : ∃ A c, v = .slice A l.length c ∧ n = l.length ∧ Ents w A N l := by
  have hl : l.length = n := by have := h.1; rw [entc_len] at this; omega
  rcases h.2 with ⟨e, e0⟩ | ⟨r, cap, cur, e, hbs, hb, hnc, _, _, htk⟩
  · have : l = [] := List.eq_nil_of_length_eq_zero (by omega)
    subst this
    exact ⟨none, 0, e, by omega, fun j x hx => by simp at hx⟩
  · refine ⟨some ⟨r, 0, none⟩, cap, by rw [hl]; exact e, hl.symm, fun j x hx => ?_⟩
    have hj := (List.getElem?_eq_some_iff.1 hx).1
    have hcell : ∀ i u, i < n * 4 → (entc N l)[i]? = some u → w.cell? ⟨r, i, none⟩ = some u := fun i u hi hu => by
      rw [blk_cell hb]
      rw [← htk, List.getElem?_take, if_pos hi] at hu
      simpa using hu
    have hg := entc_get (n := N) hx
    refine ⟨r, 0, rfl, (Array.getElem?_eq_some_iff.1 hb).1, ?_, ?_, ?_, ?_⟩
    · rw [Nat.zero_add]; exact hcell _ _ (by omega) (hg 0 _ rfl)
    · rw [Nat.zero_add]; exact hcell _ _ (by omega) (hg 1 _ rfl)
    · rw [Nat.zero_add]; exact hcell _ _ (by omega) (hg 2 _ rfl)
    · rw [Nat.zero_add]; exact hcell _ _ (by omega) (hg 3 _ rfl)
def zent : Value := .agg #[.string ⟨#[]⟩, .int .u64 0, .bool false, .string ⟨#[]⟩]
theorem entInfo : (Try.prog.info? 32).map (fun i => (i.zero, i.size, i.bytes)) = some (some zent, 4, 48) := by kernel_rfl
theorem cells_new4 (w : World) (x y z q : Value) (t : TypeId) (bl : Nat) (hb : bl = w.heap.size) : ∀ j u, [x, y, z, q][j]? = some u → (w.alloc (.cells #[x, y, z, q] t)).cell? ((⟨bl, 0, none⟩ : Addr).add j) = some u := by
  subst hb
  intro j u hj
  match j, hj with
  | 0, hj => simp at hj; subst hj; rw [addr_add]; simp
  | 1, hj => simp at hj; subst hj; rw [addr_add]; simp
  | 2, hj => simp at hj; subst hj; rw [addr_add]; simp
  | 3, hj => simp at hj; subst hj; rw [addr_add]; simp
theorem md_wrap (n : Int) (h1 : 0 ≤ n) (k : Nat) : IntKind.u64.wrap (n + (k : Int)) = ((md (n.toNat + k) : Nat) : Int) := by
  rw [IntKind.wrap_u64]; unfold md; omega
theorem entries_any (n : Int) (A : Option Addr) (c : Nat) (l : List Bt.Op) (h1 : 0 ≤ n) (h2 : n ≤ 18446744073709551615) (hl : l.length ≤ 1000) (w : World) (hA : Ops w A l) :
    Calls Try.prog 14 #[.int .u64 n, .slice A l.length c] w fun e w' => ∃ B c', e = .returned (.slice B l.length c') ∧ Ents w' B n.toNat l ∧ Kept w w' := by
  obtain ⟨i0, hi, hz0, hz1, hz2⟩ := info_parts entInfo
  have HI := Lib.hid hi; have HZ0 := Lib.hid hz0; have HZ1 := Lib.hid hz1; have HZ2 := Lib.hid hz2
  have HW := Lib.hid (md_wrap n h1)
  clear hi hz0 hz1 hz2
  go_enter Try.func14, Try.ntmps14
  go_wp2_with fail
  go_loopw [5, 10] (fun v t wr => ∃ (k : Nat), k ≤ l.length ∧ t = .int .i64 k ∧ wr.ownsRow w.heap.size 32 4 v k (entc n.toNat (l.take k)) ∧ Kept w wr) (fun _ t _ => l.length - (intOf t).toNat)
  case atStart => exact ⟨0, Nat.zero_le _, rfl, World.ownsRow_nil _ _ _ _, Kept.refl _⟩
  case round =>
    obtain ⟨k, hk, rfl, hown, hkr⟩ := hrel
    have hbase : w.heap.size ≤ wr.heap.size := Below.size hkr
    by_cases hlt : k < l.length
    · obtain ⟨x, hx⟩ : ∃ x, l[k]? = some x := ⟨_, List.getElem?_eq_getElem hlt⟩
      obtain ⟨b, o, rfl, hb, c0, c1, c2⟩ := (hA.kept hkr) k x hx
      have hst : entc n.toNat (l.take (k + 1)) = entc n.toNat (l.take k) ++ ent (n.toNat + k) x := by
        rw [ballsnoc hx, entc_snoc, List.length_take, Nat.min_eq_left (by omega)]
      have HST := Lib.hid hst
      have hwk := HW.out k
      have hmd := md_le (n.toNat + k)
      unfold ent at HST
      clear hst hx
      generalize md (n.toNat + k) = M at *
      go_wp2_with (at_builtin; refine wpList_append_own _ rfl _ _ 29 rfl w.heap.size 32 i0 zent 4 48 Try.underlying29 HI.out HZ0.out HZ1.out HZ2.out rfl (by decide) _ k (entc n.toNat (l.take k)) rfl ((hown.alloc _).alloc _) ⟨wr.heap.size + 1, 0, none⟩ 1 1 [.string (bs x.key), .int .u64 (M : Nat), .bool x.del, .string (bs x.val)] rfl rfl (cells_new4 _ _ _ _ _ _ _ (by simp)) (by simp [Value.oneCell']) (by unfold maxLen; omega) (by omega) (by simp; omega) ?_)
      intro v' w2 hown2 hg _
      have g2 : Kept w w2 := Below.grown ((hkr.alloc _).alloc _) hg (by simp; omega) (fun b hb => (hown.lt b hb).1)
      rw [← HST.out] at hown2
      go_wp2_with fail
      go_roundw
      case rel => exact ⟨k + 1, by omega, by go_num, hown2, g2⟩
      case measure => simp [intOf]; omega
    · have e : k = l.length := by omega
      subst e
      rw [List.take_length] at hown
      go_wp2_with fail
      obtain ⟨B, c', rfl, _, ht⟩ := ents_own hown
      go_ret
      exact ⟨B, c', rfl, ht, hkr⟩
end Go.Proofs.Ytalcmiaohclnjaa
