/-
  Several small texts as one.
-/
import Derived.Test.YtnnmalpnjlnnlaaGreatLevelTwice
import Derived.Shelf.SlicesE.Index
import Derived.Test.YtnnmalpnjlnnlaaGreatLevelBin
import Derived.Shelf.SlicesE.Delete
import Derived.Test.YtnnmalpnjlnnlaaGreatLevelSpec
/-
  Package level over memory: what is not among the numbers that go; the library's IndexFunc and DeleteFunc at metas.
-/
namespace Go.Proofs.YtnnmalpnjlnnlaaGreat
open Go.ChangeShapes Go.WideShapes Go.ChangeAt Go.RowKit
set_option linter.unusedVariables false
set_option maxRecDepth 100000
set_option maxHeartbeats 8000000
open Lv
/-- a list of numbers in memory -/
def Nus (w : World) (A : Option Addr) (l : List Nat) : Prop := ∀ (j x : Nat), l[j]? = some x → ∃ b o, A = some ⟨b, o, none⟩ ∧ b < w.heap.size ∧ w.cell? ⟨b, o + j, none⟩ = some (.int .u64 (x : Nat))
theorem Nus.kept {w w' : World} {A : Option Addr} {l : List Nat} (h : Nus w A l) (k : Kept w w') : Nus w' A l := fun j x hx => by
  obtain ⟨b, o, e, hb, hc⟩ := h j x hx
  exact ⟨b, o, e, Nat.lt_of_lt_of_le hb (Below.size k), by rw [kept_cell k hb]; exact hc⟩
theorem lvcont_any {A : Option Addr} {l : List Nat} {w : World} (h : Nus w A l) (hl : l.length ≤ 100000) (c x : Nat) :
    Calls Tryz.prog 78 #[.slice A l.length c, .int .u64 (x : Nat)] w fun e w' => e = .returned (.bool (l.contains x)) ∧ w' = w := by
  cases l with
  | nil => exact AnyE.slices_Contains_empty Tryz.containsU A c _ w
  | cons y l =>
    obtain ⟨b, o, rfl, hb, _⟩ := h 0 y rfl
    obtain ⟨L, hL⟩ : ∃ L, L = y :: l := ⟨_, rfl⟩
    rw [← hL] at h hl ⊢
    have h2 := AnyE.slices_Contains Tryz.containsU Su.eU (fun x y => decide (x = y)) (EqlAt.intD _ _ .u64) b o L.length c (L.map fun x : Nat => (x : Int)) (x : Int) w (by simp) (by omega) (fun j hj => by
      rw [List.length_map] at hj
      obtain ⟨b', o', e, _, hc⟩ := h j L[j] (List.getElem?_eq_getElem hj)
      cases e
      rw [hc]
      simp [hj])
    refine h2.mono ?_
    rintro e w' ⟨rfl, rfl⟩
    refine ⟨?_, rfl⟩
    congr 2
    rw [Bool.eq_iff_iff, List.take_of_length_le (by simp)]
    simp
    constructor
    · rintro ⟨z, hz, e⟩
      have : x = z := by omega
      rw [this]; exact hz
    · intro h
      exact ⟨x, h, rfl⟩
/-- the closure: is a table's number among these? -/
theorem lvgone_any {A : Option Addr} {G : List Nat} {w : World} {bx c : Nat} (h : Nus w A G) (hl : G.length ≤ 100000) (hc : w.cell? ⟨bx, 0, none⟩ = some (.slice A G.length c)) (hb : bx < w.heap.size) (x : Meta) :
    Calls Tryz.prog 77 #[mtv x, .pointer (some ⟨bx, 0, none⟩)] w fun e w' => e = .returned (.bool (G.contains x.file)) ∧ Kept w w' := by
  have HC := Lib.hid (fun W (hW : Kept w W) => lvcont_any (h.kept hW) hl c x.file)
  have hk := (kept_cell ((Kept.refl w).alloc (.cells #[.int .u64 (x.file : Nat), .int .i64 x.size, .string (bs x.first), .string (bs x.last), .int .u64 (x.seq : Nat)] 43)) (p := ⟨bx, 0, none⟩) hb).trans hc
  clear h
  unfold mtv
  go_enter Tryz.func77, Tryz.ntmps77
  go_wp2_with fail
  refine (HC.out _ ((Kept.refl _).alloc _)).mono ?_
  rintro e w' ⟨rfl, rfl⟩
  go_wp2_with fail
  go_ret
  exact ⟨by simp, (Kept.refl _).alloc _⟩
/-- the first meta that is so, or none -/
def FirstAt (p : Meta → Bool) (l : List Meta) (i : Int) : Prop := (i = -1 ∧ ∀ m ∈ l, p m = false) ∨ ∃ k : Nat, i = (k : Int) ∧ k < l.length ∧ (∀ m ∈ l.take k, p m = false) ∧ ∃ m, l[k]? = some m ∧ p m = true
theorem lvidx_any {A : Option Addr} {l : List Meta} {w : World} (hM : Mts w A l) (c : Nat) (hl : l.length ≤ 100000) (lb : Value) (p : Meta → Bool)
    (HP : ∀ W x, Kept w W → Calls Tryz.prog 77 #[mtv x, lb] W fun e w' => e = .returned (.bool (p x)) ∧ Kept W w') :
    Calls Tryz.prog 96 #[.slice A l.length c, .func (.func 77) #[] #[lb]] w fun e w' => ∃ i : Int, e = .returned (.int .i64 i) ∧ FirstAt p l i ∧ Kept w w' := by
  have HM := Lib.hid hM
  have HPH := Lib.hid HP
  clear hM HP
  go_enter Tryz.func96, Tryz.ntmps96
  go_wp2_with fail
  go_loopw [8] (fun x wr => ∃ k : Nat, k ≤ l.length ∧ x = .int .i64 k ∧ Hid (∀ m ∈ l.take k, p m = false) ∧ Hid (Kept w wr)) (fun x _ => l.length - (intOf x).toNat)
  case atStart => exact ⟨0, Nat.zero_le _, rfl, Lib.hid (by simp), Lib.hid (Kept.refl _)⟩
  case round =>
    obtain ⟨k, hk, rfl, HZ, HK⟩ := hrel
    by_cases hlt : k < l.length
    · obtain ⟨y, hy⟩ : ∃ y, l[k]? = some y := ⟨_, List.getElem?_eq_getElem hlt⟩
      obtain ⟨b, o, rfl, hb, c0, c1, c2, c3, c4⟩ := (Mts.kept HM.out HK.out) k y hy
      have HC := Lib.hid (fun W (hW : Kept w W) => HPH.out W y hW)
      have HJ2 := Lib.hid (fun (hp : p y = false) => show ∀ m ∈ l.take (k + 1), p m = false from fun m hm => by
        rw [List.take_add_one, hy] at hm
        rcases List.mem_append.1 hm with hm | hm
        · exact HZ.out m hm
        · simp at hm; subst hm; exact hp)
      have HF := Lib.hid (fun (hp : p y = true) => show FirstAt p l (k : Int) from .inr ⟨k, rfl, hlt, HZ.out, y, hy, hp⟩)
      unfold mtv at HC
      clear hy
      go_wp2_with fail
      refine (HC.out _ HK.out).mono ?_
      rintro e w1 ⟨rfl, g1⟩
      have HK1 := Lib.hid (kept_trans HK.out g1)
      generalize hq : p y = q at *
      clear c0 c1 c2 c3 c4 g1 hq
      cases q
      · have HJ3 := Lib.hid (HJ2.out rfl)
        go_wp2_with fail
        go_roundw
        case rel => exact ⟨k + 1, by omega, by go_num, HJ3, HK1⟩
        case measure => simp [intOf]; omega
      · have HF2 := Lib.hid (HF.out rfl)
        go_wp2_with fail
        go_ret
        exact ⟨k, rfl, HF2.out, HK1.out⟩
    · obtain rfl : k = l.length := by omega
      rw [List.take_length] at HZ
      go_wp2_with fail
      go_ret
      exact ⟨-1, rfl, .inl ⟨rfl, HZ.out⟩, HK.out⟩
/-- a meta that is stored into a row of the call's own -/
theorem own_set5 {w : World} {B g n cap : Nat} {l : List Meta} (h : w.ownsRow B 43 5 (.slice (some ⟨g, 0, none⟩) n cap) n (mtl l)) (i : Nat) (hi : i < n) (y : Meta) :
    (((((w.setCell ⟨g, i * 5, none⟩ (.int .u64 (y.file : Nat))).setCell ⟨g, i * 5 + 1, none⟩ (.int .i64 y.size)).setCell ⟨g, i * 5 + 2, none⟩ (.string (bs y.first))).setCell ⟨g, i * 5 + 3, none⟩ (.string (bs y.last))).setCell ⟨g, i * 5 + 4, none⟩ (.int .u64 (y.seq : Nat))).ownsRow B 43 5 (.slice (some ⟨g, 0, none⟩) n cap) n (mtl (l.set i y)) := by
  obtain ⟨hlen, h2⟩ := h
  have hl : l.length = n := by rw [mtl_len] at hlen; omega
  rcases h2 with ⟨e, _⟩ | ⟨r, cap', cur, e, hB, hb, hnc, hcm, hcs, htk⟩
  · cases e
  · cases e
    refine ⟨by rw [mtl_len, List.length_set]; omega, .inr ⟨g, cap, _, rfl, hB, lvset (lvset (lvset (lvset (lvset hb _ _) _ _) _ _) _ _) _ _, hnc, hcm, by simp [hcs], ?_⟩⟩
    apply List.ext_getElem?
    intro t
    by_cases ht : t < n * 5
    · have h5 : t / 5 < l.length := by omega
      have hm : ∀ x : Meta, t % 5 < (mtc x).length := fun x => by simp only [mtc, List.length_cons, List.length_nil]; omega
      have hR : (mtl (l.set i y))[t]? = some ((mtc ((l.set i y)[t / 5]'(by simpa using h5)))[t % 5]'(hm _)) := by
        have := mtl_get (l := l.set i y) (j := t / 5) (List.getElem?_eq_getElem (by simpa using h5)) (t % 5) _ (List.getElem?_eq_getElem (hm _))
        rwa [show t / 5 * 5 + t % 5 = t by omega] at this
      have hO : cur[t]? = some ((mtc (l[t / 5]))[t % 5]'(hm _)) := by
        have h0 := mtl_get (l := l) (j := t / 5) (List.getElem?_eq_getElem h5) (t % 5) _ (List.getElem?_eq_getElem (hm _))
        rw [show t / 5 * 5 + t % 5 = t by omega, ← htk, List.getElem?_take_of_lt ht, Array.getElem?_toList] at h0
        exact h0
      rw [List.getElem?_take_of_lt ht, Array.getElem?_toList, hR]
      by_cases e : t / 5 = i
      · have hlt : t < cur.size := by omega
        have h6 : t = i * 5 + t % 5 := by omega
        have h7 : t % 5 = 0 ∨ t % 5 = 1 ∨ t % 5 = 2 ∨ t % 5 = 3 ∨ t % 5 = 4 := by omega
        have e2 : (l.set i y)[t / 5]'(by simpa using h5) = y := by
          rw [List.getElem_set]; simp [e]
        rcases h7 with h7 | h7 | h7 | h7 | h7
        · have : t = i * 5 := by omega
          subst this
          simp [h7, mtc, hlt]
        · have : t = i * 5 + 1 := by omega
          subst this
          simp [e2, h7, mtc, hlt]
        · have : t = i * 5 + 2 := by omega
          subst this
          simp [e2, h7, mtc, hlt]
        · have : t = i * 5 + 3 := by omega
          subst this
          simp [e2, h7, mtc, hlt]
        · have : t = i * 5 + 4 := by omega
          subst this
          simp [e2, h7, mtc, hlt]
      · have e2 : (l.set i y)[t / 5]'(by simpa using h5) = l[t / 5] := by
          rw [List.getElem_set]; rw [if_neg (fun h => e h.symm)]
        rw [e2, ← hO]
        simp only [Array.getElem?_setIfInBounds]
        rw [if_neg (by omega), if_neg (by omega), if_neg (by omega), if_neg (by omega), if_neg (by omega)]
    · rw [List.getElem?_take_eq_none (by omega), List.getElem?_eq_none (by rw [mtl_len, List.length_set]; omega)]
def zcs (n : Nat) : List Value := (Builtin.zeroCells zmtV.cells n).toList
theorem zcs_len (n : Nat) : (zcs n).length = n * 5 := by simp [zcs, Builtin.zeroCells, zmtV, Value.cells]
theorem zcs_one (n : Nat) : ∀ v ∈ zcs n, v.oneCell' = true := fun v hv => by
  unfold zcs Builtin.zeroCells at hv
  simp only [Array.toList_map, List.mem_map] at hv
  obtain ⟨i, _, rfl⟩ := hv
  have h5 : zmtV.cells.size = 5 := rfl
  have h : i % zmtV.cells.size < 5 := by rw [h5]; omega
  generalize i % zmtV.cells.size = r at h
  have h4 : r = 0 ∨ r = 1 ∨ r = 2 ∨ r = 3 ∨ r = 4 := by omega
  rcases h4 with rfl | rfl | rfl | rfl | rfl <;> rfl
theorem run_clear5 (w : World) (ty : TypeId) (b o n c : Nat) (hn : 0 < n) (hc : ∀ j, j < n * 5 → (w.cell? ⟨b, o + j, none⟩).isSome = true) (hf : ∀ j, j < n * 5 → w.frozen? ⟨b, o + j, none⟩ = false) :
    (Builtin.clear_ #[30] ty #[.slice (some ⟨b, o, none⟩) n c]).run Tryz.prog w = .ok (.tuple #[]) (w.setCells b o (zcs n)) := by
  have hst := run_storeCells_cells (P := Tryz.prog) b o (zcs n) 0 w (by rw [zcs_len]; simpa using hc) (by rw [zcs_len]; simpa using hf) (zcs_one n)
  simp only [Nat.add_zero] at hst
  have hv : ∀ w, (zeroValue 43).run Tryz.prog w = .ok zmtV w := Tryz.zeroValue43
  obtain ⟨m, rfl⟩ : ∃ m, n = m + 1 := ⟨n - 1, by omega⟩
  unfold zcs at hst ⊢
  simp [Builtin.clear_, run_underlying Tryz.underlying30, hv, hst]
theorem heap_setCells {g : Nat} {e : TypeId} : ∀ (zs : List Value) (o : Nat) (w : World) (cur : Array Value), w.heap[g]? = some (.cells cur e (0, 0)) → ∃ cur' : Array Value, (w.setCells g o zs).heap[g]? = some (.cells cur' e (0, 0)) ∧ cur'.size = cur.size ∧ ∀ t, t < o → cur'[t]? = cur[t]?
  | [], o, w, cur, h => ⟨cur, h, rfl, fun _ _ => rfl⟩
  | v :: zs, o, w, cur, h => by
    obtain ⟨cur', h1, h2, h3⟩ := heap_setCells zs (o + 1) (w.setCell ⟨g, o, none⟩ v) _ (lvset h o v)
    refine ⟨cur', h1, by rw [h2]; simp, fun t ht => ?_⟩
    rw [h3 t (by omega)]
    simp only [Array.getElem?_setIfInBounds]
    rw [if_neg (by omega)]
theorem grown_setCells {g : Nat} : ∀ (zs : List Value) (o : Nat) (w : World), w.grownBy (w.setCells g o zs) (some g)
  | [], o, w => ⟨rfl, rfl, rfl, Nat.le_refl _, fun _ _ _ => rfl⟩
  | v :: zs, o, w => by
    have h := grown_setCells (g := g) zs (o + 1) (w.setCell ⟨g, o, none⟩ v)
    exact ⟨h.os, h.tape, h.output, Nat.le_trans (by simp [World.setCell]) h.size, fun k hk hne => by
      have h1 := h.block k (by simpa [World.setCell] using hk) hne
      rw [World.setCells, h1]
      exact Below.heap_setCell _ _ _ _ (fun e => hne (by rw [e]))⟩
/-- of a row's first metas, where what stands behind was cleared -/
theorem own_cleared {w : World} {B g n cap : Nat} {l : List Meta} (h : w.ownsRow B 43 5 (.slice (some ⟨g, 0, none⟩) n cap) n (mtl l)) (i : Nat) (hi : i ≤ n) (zs : List Value) :
    (w.setCells g (i * 5) zs).ownsRow B 43 5 (.slice (some ⟨g, 0, none⟩) i cap) i (mtl (l.take i)) := by
  obtain ⟨hlen, h2⟩ := h
  have hl : l.length = n := by rw [mtl_len] at hlen; omega
  rcases h2 with ⟨e, _⟩ | ⟨r, cap', cur, e, hB, hb, hnc, hcm, hcs, htk⟩
  · cases e
  · cases e
    obtain ⟨cur', h1, h3, h4⟩ := heap_setCells zs (i * 5) w cur hb
    refine ⟨by rw [mtl_len, List.length_take]; omega, .inr ⟨g, cap, cur', rfl, hB, h1, by omega, hcm, by rw [h3, hcs], ?_⟩⟩
    have e2 : mtl (l.take i) = (mtl l).take (i * 5) := by
      have e3 : mtl l = mtl (l.take i) ++ mtl (l.drop i) := by rw [← mtl_app, List.take_append_drop]
      rw [e3, List.take_append_of_le_length (by rw [mtl_len, List.length_take]; omega)]
      exact (List.take_of_length_le (by rw [mtl_len, List.length_take]; omega)).symm
    rw [e2, ← htk, List.take_take, Nat.min_eq_left (by omega)]
    apply List.ext_getElem?
    intro t
    by_cases ht : t < i * 5
    · rw [List.getElem?_take_of_lt ht, List.getElem?_take_of_lt ht, Array.getElem?_toList, Array.getElem?_toList, h4 t ht]
    · rw [List.getElem?_take_eq_none (by omega), List.getElem?_take_eq_none (by omega)]
/-- what has been kept of the first j metas -/
structure Keeps (p : Meta → Bool) (l dk : List Meta) (i j : Nat) : Prop where
  len : dk.length = l.length
  lt : i < j
  le : j ≤ l.length
  kept : dk.take i = (l.take j).filter fun m => !p m
  rest : ∀ t, j ≤ t → dk[t]? = l[t]?
theorem keeps_start {p : Meta → Bool} {l : List Meta} {k : Nat} {m : Meta} (hk : k < l.length) (ha : ∀ m ∈ l.take k, p m = false) (hm : l[k]? = some m) (hp : p m = true) : Keeps p l l k (k + 1) := by
  refine ⟨rfl, by omega, by omega, ?_, fun _ _ => rfl⟩
  rw [List.take_add_one, hm, List.filter_append]
  simp only [Option.toList_some, List.filter_cons, hp, Bool.not_true, Bool.false_eq_true, if_false, List.filter_nil, List.append_nil]
  exact (List.filter_eq_self.2 (fun x hx => by rw [ha x hx]; rfl)).symm
theorem Keeps.skip {p : Meta → Bool} {l dk : List Meta} {i j : Nat} {m : Meta} (h : Keeps p l dk i j) (hm : l[j]? = some m) (hp : p m = true) : Keeps p l dk i (j + 1) := by
  have hj := (List.getElem?_eq_some_iff.1 hm).1
  refine ⟨h.len, by have := h.lt; omega, by omega, ?_, fun t ht => h.rest t (by omega)⟩
  rw [List.take_add_one, hm, List.filter_append, h.kept]
  simp [hp]
theorem Keeps.keep {p : Meta → Bool} {l dk : List Meta} {i j : Nat} {m : Meta} (h : Keeps p l dk i j) (hm : l[j]? = some m) (hp : p m = false) : Keeps p l (dk.set i m) (i + 1) (j + 1) := by
  have hj := (List.getElem?_eq_some_iff.1 hm).1
  have hl := h.len
  have hlt := h.lt
  refine ⟨by rw [List.length_set]; exact hl, by omega, by omega, ?_, fun t ht => ?_⟩
  · have e1 : (dk.set i m).take (i + 1) = dk.take i ++ [m] := by
      rw [List.take_add_one, List.take_set_of_le (Nat.le_refl _), List.getElem?_set_self (by omega)]
      rfl
    have e2 : l.take (j + 1) = l.take j ++ [m] := by rw [List.take_add_one, hm]; rfl
    rw [e1, e2, List.filter_append, ← h.kept]
    simp [hp]
  · rw [List.getElem?_set_ne (by omega)]
    exact h.rest t (by omega)
theorem mts_own2 {w : World} {B g n cap : Nat} {l : List Meta} (h : w.ownsRow B 43 5 (.slice (some ⟨g, 0, none⟩) n cap) n (mtl l)) {j : Nat} {x : Meta} (hx : l[j]? = some x) : Mt w g (j * 5) x ∧ (∀ o, w.frozen? ⟨g, o, none⟩ = false) ∧ g < w.heap.size := by
  obtain ⟨A, c, e, hn, hm⟩ := mts_own h
  cases e
  obtain ⟨b, o, e, hb, hmt⟩ := hm.mts j x hx
  cases e
  refine ⟨by rw [Nat.zero_add] at hmt; exact hmt, fun o => ?_, hb⟩
  rcases h.2 with ⟨e, _⟩ | ⟨r, cap', cur, e, hB, hb2, _⟩
  · cases e
  · cases e; exact mfrozen hb2 o
theorem own_cell {w : World} {B g n cap : Nat} {l : List Meta} (h : w.ownsRow B 43 5 (.slice (some ⟨g, 0, none⟩) n cap) n (mtl l)) : ∀ t, t < n * 5 → (w.cell? ⟨g, t, none⟩).isSome = true := by
  rcases h.2 with ⟨e, _⟩ | ⟨r, cap', cur, e, hB, hb2, hnc, _, hcs, _⟩
  · cases e
  · cases e
    intro t ht
    rw [mcell hb2 t (Array.getElem?_eq_getElem (by rw [hcs]; have := Nat.mul_le_mul_right 5 hnc; omega))]
    rfl
theorem lvdelf_any {w : World} {base : Nat} {v : Value} {l : List Meta} (h : w.ownsRow base 43 5 v l.length (mtl l)) (hl : l.length ≤ 100000) (lb : Value) (p : Meta → Bool)
    (HP : ∀ W x, w.grownBy W v.ownBlock → Calls Tryz.prog 77 #[mtv x, lb] W fun e w' => e = .returned (.bool (p x)) ∧ Kept W w') :
    Calls Tryz.prog 76 #[v, .func (.func 77) #[] #[lb]] w fun e w' => ∃ v', e = .returned v' ∧ w'.ownsRow base 43 5 v' (l.filter fun m => !p m).length (mtl (l.filter fun m => !p m)) ∧ w.grownBy w' v.ownBlock ∧ v'.ownBlock = v.ownBlock := by
  have hkg : ∀ W : World, Kept w W → w.grownBy W v.ownBlock := fun W k => ⟨Below.os k, Below.tape k, Below.output k, Below.size k, fun b hb _ => Below.block k b hb⟩
  rcases h.2 with ⟨rfl, e0⟩ | ⟨g, cap, cur, rfl, hg, hb, hnc, hcm, hcs, htk⟩
  · have hl0 : l = [] := List.eq_nil_of_length_eq_zero e0
    subst hl0
    have HI := Lib.hid (lvidx_any (A := none) (l := []) (w := w) (fun j x hx => by simp at hx) 0 (by simp) lb p (fun W x hW => HP W x (hkg W hW)))
    have HO := Lib.hid h
    clear h HP
    go_enter Tryz.func76, Tryz.ntmps76
    go_wp2_with fail
    refine HI.out.mono ?_
    rintro e w1 ⟨i, rfl, hF, g1⟩
    obtain rfl : i = -1 := by
      rcases hF with ⟨h1, _⟩ | ⟨k, _, h2, _⟩
      · exact h1
      · simp at h2
    go_wp2_with fail
    go_ret
    exact ⟨_, rfl, own_kept HO.out g1, hkg _ g1, rfl⟩
  · obtain ⟨A, c, e, _, hMr⟩ := mts_own h
    cases e
    have HI := Lib.hid (lvidx_any hMr.mts cap hl lb p (fun W x hW => HP W x (hkg W hW)))
    have HO := Lib.hid h
    have HG := Lib.hid hkg
    have HPH := Lib.hid HP
    have HNC := Lib.hid hnc
    clear h HP hb htk hMr hkg hcs hcm hnc hg
    clear cur
    obtain ⟨R, hR⟩ : ∃ R, R = l.filter fun m => !p m := ⟨_, rfl⟩
    rw [← hR]
    have HRR := Lib.hid hR
    clear hR
    go_enter Tryz.func76, Tryz.ntmps76
    go_wp2_with fail
    refine HI.out.mono ?_
    rintro e w1 ⟨i, rfl, hF, g1⟩
    have HO1 := Lib.hid (own_kept HO.out g1)
    have HG1 := Lib.hid (HG.out _ g1)
    rcases hF with ⟨rfl, hall⟩ | ⟨k, rfl, hk, ha, m, hm, hp⟩
    · have HE := Lib.hid (show (l.filter fun m => !p m) = l from List.filter_eq_self.2 (fun x hx => by rw [hall x hx]; rfl))
      clear hall g1
      go_wp2_with fail
      go_ret
      exact ⟨_, rfl, by rw [HRR.out, HE.out]; exact HO1.out, HG1.out, rfl⟩
    · have HS := Lib.hid (keeps_start hk ha hm hp)
      have d1 : ((k : Int) == -1) = false := beq_eq_false_iff_ne.2 (by omega)
      clear ha hm hp g1
      go_wp2_with fail
      go_loopw [5, 6] (fun x y wr => ∃ (i j : Nat) (dk : List Meta), x = .int .i64 i ∧ y = .int .i64 j ∧ Hid (Keeps p l dk i j) ∧ Hid (wr.ownsRow base 43 5 (.slice (some ⟨g, 0, none⟩) l.length cap) l.length (mtl dk)) ∧ Hid (w.grownBy wr (some g))) (fun x y _ => l.length - (intOf y).toNat)
      case atStart => exact ⟨k, k + 1, l, rfl, by go_num, HS, HO1, HG1⟩
      case round =>
        obtain ⟨i, j, dk, rfl, rfl, HK, HR, HW⟩ := hrel
        have hij := HK.out.lt
        have hjl := HK.out.le
        by_cases hlt : j < l.length
        · obtain ⟨y, hy⟩ : ∃ y, l[j]? = some y := ⟨_, List.getElem?_eq_getElem hlt⟩
          have hyd : dk[j]? = some y := (HK.out.rest j (Nat.le_refl _)).trans hy
          obtain ⟨⟨c0, c1, c2, c3, c4⟩, _, hgb⟩ := mts_own2 HR.out hyd
          have HY := Lib.hid hy
          clear hy hyd
          obtain ⟨ws, hws⟩ : ∃ ws, ws = wr.alloc (.cells #[.int .u64 (y.file : Nat), .int .i64 y.size, .string (bs y.first), .string (bs y.last), .int .u64 (y.seq : Nat)] 43) := ⟨_, rfl⟩
          have hgk : w.grownBy ws (some g) := by
            have h1 := HW.out
            rw [hws]
            exact ⟨h1.os, h1.tape, h1.output, Nat.le_trans h1.size (by simp), fun k hk hn => (malloc_old _ _ (Nat.lt_of_lt_of_le hk h1.size)).trans (h1.block k hk hn)⟩
          have HC := Lib.hid (HPH.out ws y hgk)
          rw [hws] at HC
          clear hgk hws
          unfold mtv at HC
          go_wp2_with fail
          refine HC.out.mono ?_
          rintro e w1 ⟨rfl, g1⟩
          have HK1 := Lib.hid g1
          have HR1 := Lib.hid (own_kept (HR.out.alloc _) g1)
          have HW1 := Lib.hid (show w.grownBy w1 (some g) from by
            have h1 := HW.out
            exact ⟨(Below.os g1).trans h1.os, (Below.tape g1).trans h1.tape, (Below.output g1).trans h1.output, Nat.le_trans h1.size (Nat.le_trans (by simp) (Below.size g1)), fun k hk hn => (Below.block g1 k (Nat.lt_of_lt_of_le hk (Nat.le_trans h1.size (by simp)))).trans ((malloc_old _ _ (Nat.lt_of_lt_of_le hk h1.size)).trans (h1.block k hk hn))⟩)
          have HBX := Lib.hid (hp_kept (malloc_new wr (.cells #[.int .u64 (y.file : Nat), .int .i64 y.size, .string (bs y.first), .string (bs y.last), .int .u64 (y.seq : Nat)] 43)) g1)
          clear c0 c1 c2 c3 c4 g1 HC
          have HQT := Lib.hid (fun (hq : p y = true) => HK.out.skip HY.out hq)
          have HQF := Lib.hid (fun (hq : p y = false) => HK.out.keep HY.out hq)
          generalize p y = q at *
          cases q
          · have HK2 := Lib.hid (HQF.out rfl)
            obtain ⟨z, hz⟩ : ∃ z, dk[i]? = some z := ⟨_, List.getElem?_eq_getElem (by have := HK.out.len; omega)⟩
            obtain ⟨⟨d0, d1', d2, d3, d4⟩, fz, hgw⟩ := mts_own2 HR1.out hz
            have f0 := fz (i * 5)
            have f1 := fz (i * 5 + 1)
            have f2 := fz (i * 5 + 2)
            have f3 := fz (i * 5 + 3)
            have f4 := fz (i * 5 + 4)
            have b0 := mcell HBX.out 0 (v := .int .u64 (y.file : Nat)) (by rfl)
            have b1 := mcell HBX.out 1 (v := .int .i64 y.size) (by rfl)
            have b2 := mcell HBX.out 2 (v := .string (bs y.first)) (by rfl)
            have b3 := mcell HBX.out 3 (v := .string (bs y.last)) (by rfl)
            have b4 := mcell HBX.out 4 (v := .int .u64 (y.seq : Nat)) (by rfl)
            have hil : i < l.length := by omega
            have HO5 := Lib.hid (own_set5 HR1.out i hil y)
            clear fz hz
            go_wp2_with fail
            go_roundw
            case rel =>
              refine ⟨i + 1, j + 1, dk.set i y, by go_num, by go_num, HK2, HO5, ?_⟩
              have h1 := HW1.out
              exact ⟨h1.os, h1.tape, h1.output, Nat.le_trans h1.size (by simp [World.setCell]), fun k hk hn => by
                have hkg : k ≠ g := fun e => hn (by rw [e])
                rw [Below.heap_setCell _ _ _ _ hkg, Below.heap_setCell _ _ _ _ hkg, Below.heap_setCell _ _ _ _ hkg, Below.heap_setCell _ _ _ _ hkg, Below.heap_setCell _ _ _ _ hkg]
                exact h1.block k hk hn⟩
            case measure => simp [intOf]; omega
          · have HK2 := Lib.hid (HQT.out rfl)
            have b0 := mcell HBX.out 0 (v := .int .u64 (y.file : Nat)) (by rfl)
            go_wp2_with fail
            go_roundw
            case rel => exact ⟨i, j + 1, dk, rfl, by go_num, HK2, HR1, HW1⟩
            case measure => simp [intOf]; omega
        · obtain rfl : j = l.length := by omega
          have hcl := fun (ty : TypeId) (c : Nat) => run_clear5 wr ty g (i * 5) (l.length - i) c (by omega) (fun t ht => own_cell HR.out _ (by omega)) (fun t ht => by
            obtain ⟨_, fz, _⟩ := mts_own2 (j := i) HR.out (List.getElem?_eq_getElem (by have := HK.out.len; omega))
            exact fz _)
          have hic : i < cap := by have := HNC.out; omega
          have hine : ¬ cap = i := by omega
          have HRT := Lib.hid (show R = dk.take i by rw [HRR.out, HK.out.kept, List.take_length])
          have HRL := Lib.hid (show R.length = i by rw [HRT.out, List.length_take]; have := HK.out.len; omega)
          have HOC := Lib.hid (own_cleared HR.out i (by omega) (zcs (l.length - i)))
          have HGS := Lib.hid (grown_setCells (g := g) (zcs (l.length - i)) (i * 5) wr)
          go_wp2_with fail
          go_ret
          refine ⟨.slice (some ⟨g, 0, none⟩) i cap, rfl, ?_, ?_, rfl⟩
          · rw [HRL.out, HRT.out]; exact HOC.out
          · have h1 := HW.out
            have h2 := HGS.out
            exact ⟨h2.os.trans h1.os, h2.tape.trans h1.tape, h2.output.trans h1.output, Nat.le_trans h1.size h2.size, fun k hk hn => (h2.block k (Nat.lt_of_lt_of_le hk h1.size) hn).trans (h1.block k hk hn)⟩
end Go.Proofs.YtnnmalpnjlnnlaaGreat

/-
  Package level over memory: a number is sought among numbers that rise, and taken away.
-/
namespace Go.Proofs.YtnnmalpnjlnnlaaGreat
open Go.ChangeShapes Go.WideShapes Go.ChangeAt Go.RowKit
open Go.Sort
set_option linter.unusedVariables false
set_option maxRecDepth 100000
set_option maxHeartbeats 8000000
theorem lvbin_nil (x : Nat) (w : World) : Calls Tryz.prog 74 #[.slice none 0 0, .int .u64 (x : Nat)] w fun e w' => e = .returned (.tuple #[.int .i64 0, .bool false]) ∧ w' = w := by
  go_enter Tryz.func74, Tryz.ntmps74
  go_wp2_with fail
  refine wp_loop_rounds 1 ?_
  rw [rounds_succ]
  go_wp2
  go_ret2
  exact ⟨rfl, rfl⟩
/-- what the search tells -/
def BinRet (l : List Nat) (x : Nat) (w : World) (e : Ending) (w' : World) : Prop := ∃ (i : Nat) (f : Bool), e = .returned (.tuple #[.int .i64 (i : Nat), .bool f]) ∧ (f = true → l[i]? = some x) ∧ (f = false → x ∉ l) ∧ w' = w
theorem lvbin_own {w : World} {base : Nat} {v : Value} {l : List Nat} (h : w.ownsRow base 32 1 v l.length (nsc l)) (hl : l.length ≤ 100000) (hs : l.Pairwise (fun x y => x ≤ y)) (x : Nat) :
    Calls Tryz.prog 74 #[v, .int .u64 (x : Nat)] w (BinRet l x w) := by
  rcases h.2 with ⟨rfl, e0⟩ | ⟨g, cap, cur, rfl, hg, hb, hnc, hcm, hcs, htk⟩
  · have hl0 : l = [] := List.eq_nil_of_length_eq_zero e0
    subst hl0
    refine (lvbin_nil x w).mono ?_
    rintro e w' ⟨rfl, rfl⟩
    exact ⟨0, false, rfl, (fun h => by cases h), (fun _ => by simp), rfl⟩
  · rw [Nat.mul_one] at htk
    have hG : ∀ t, t < l.length → w.cell? ⟨g, t, none⟩ = some (.int .u64 ((l[t]?.getD 0 : Nat) : Int)) := fun t ht => by
      have h1 : (cur.toList.take l.length)[t]? = (nsc l)[t]? := by rw [htk]
      rw [List.getElem?_take_of_lt ht, Array.getElem?_toList] at h1
      exact mcell hb t (by rw [h1]; simp [nsc, ht])
    have hS : ∀ s t, s ≤ t → t < l.length → l[s]?.getD 0 ≤ l[t]?.getD 0 := fun s t h1 h2 => by
      rw [List.getElem?_eq_getElem (by omega), List.getElem?_eq_getElem h2]
      by_cases e : s = t
      · subst e; exact Nat.le_refl _
      · rw [List.pairwise_iff_getElem] at hs
        exact hs s t (by omega) h2 (by omega)
    refine (lvbin_any (n := l.length) (b := g) (G := fun t => l[t]?.getD 0) (by omega) hG hS x cap).mono ?_
    rintro e w' ⟨i, f, rfl, h1, h2, rfl⟩
    refine ⟨i, f, rfl, fun hf => ?_, fun hf hx => ?_, rfl⟩
    · obtain ⟨h3, h4⟩ := h1 hf
      rw [List.getElem?_eq_getElem h3] at h4 ⊢
      simpa using h4
    · obtain ⟨t, ht, he⟩ := List.getElem_of_mem hx
      have := h2 hf t ht
      rw [List.getElem?_eq_getElem ht] at this
      exact this (by simpa using he)
theorem lvdelU_own {w : World} {base : Nat} {v : Value} {l : List Nat} (h : w.ownsRow base 32 1 v l.length (nsc l)) (i : Nat) (hi : i < l.length) :
    Calls Tryz.prog 75 #[v, .int .i64 (i : Nat), .int .i64 ((i + 1 : Nat) : Int)] w fun e w' => ∃ v', e = .returned v' ∧ w'.ownsRow base 32 1 v' (l.eraseIdx i).length (nsc (l.eraseIdx i)) ∧ w.grownBy w' v.ownBlock ∧ v'.ownBlock = v.ownBlock := by
  rcases h.2 with ⟨rfl, e0⟩ | ⟨g, cap, cur, rfl, hg, hb, hnc, hcm, hcs, htk⟩
  · omega
  · rw [Nat.mul_one] at htk
    have hH := holds_row hb htk
    obtain ⟨d, hd⟩ : ∃ d : Array Int, d = (l.map fun x : Nat => (x : Int)).toArray := ⟨_, rfl⟩
    have hds : d.size = l.length := by rw [hd]; simp
    rw [← hd] at hH
    have hz : ∀ w, (zeroValue (Tryz.deleteU_ren.t 23)).run Tryz.prog w = .ok (Su.eU 0) w := Tryz.zeroValue32
    obtain ⟨i0, hi0, hz0, hz1, hz2⟩ := info_parts uInfo
    have h2 := AnyE.slices_Delete Tryz.deleteU Su.eU (fun x => rfl) (0 : Int) hz i0 hi0 hz1 g 0 cap i (i + 1) d w hH (by omega) (by unfold maxLen at hcm; omega) (by omega) (by omega)
    rw [hds] at h2
    refine h2.mono ?_
    rintro e w' ⟨rfl, q, rfl⟩
    have hel : (l.eraseIdx i).length = l.length - (i + 1 - i) := by rw [List.length_eraseIdx, if_pos hi]; omega
    have hel2 : (l.eraseIdx i).length = l.length - 1 := by rw [hel]; omega
    generalize hD : (d.toList.take i ++ d.toList.drop (i + 1) ++ List.replicate (i + 1 - i) (0 : Int)).toArray = D
    have hDs : D.size = l.length := by rw [← hD]; simp [hds]; omega
    have hDt : ∀ j, j < l.length - 1 → D[j]? = ((l.eraseIdx i)[j]?).map (fun x : Nat => (x : Int)) := fun j hj => by
      have hDl : D.toList = (l.eraseIdx i).map (fun x : Nat => (x : Int)) ++ [0] := by
        rw [← hD, hd, List.eraseIdx_eq_take_drop_succ, show i + 1 - i = 1 by omega]
        simp
      rw [← Array.getElem?_toList, hDl, List.getElem?_append_left (by rw [List.length_map]; omega), List.getElem?_map]
    have hcur : (putRow Su.eU (Sort.ahead w q) g 0 D).heap[g]? = some (.cells (putCells Su.eU 0 D cur) 32 (0, 0)) := by
      simp [putRow, mapBlock, Sort.ahead, Array.getElem?_modify, hb, onCells]
    refine ⟨_, rfl, ⟨by simp [nsc], .inr ⟨g, cap, _, by rw [hel], hg, hcur, by omega, hcm, by simp [putCells, hcs], ?_⟩⟩, ⟨rfl, rfl, rfl, by simp [putRow, mapBlock, Sort.ahead], fun k hk hne => ?_⟩, rfl⟩
    · rw [Nat.mul_one, hel2]
      apply List.ext_getElem?
      intro j
      by_cases hj : j < l.length - 1
      · have h3 := hDt j hj
        have hj3 : j < (l.eraseIdx i).length := by omega
        rw [List.getElem?_eq_getElem hj3, Array.getElem?_eq_getElem (by omega)] at h3
        simp only [Option.map_some, Option.some.injEq] at h3
        rw [List.getElem?_take_of_lt hj, Array.getElem?_toList]
        simp [putCells, show j < cur.size by omega, show j < D.size by omega, nsc, hj3, h3]
      · rw [List.getElem?_take_eq_none (by omega), List.getElem?_eq_none (by rw [nsc_len]; omega)]
    · have hk2 : g ≠ k := fun e => hne (by rw [e]; rfl)
      simp [putRow, mapBlock, Sort.ahead, Array.getElem?_modify, hk2]
end Go.Proofs.YtnnmalpnjlnnlaaGreat

/-
  Package level over memory: what stays when some tables go.
-/
namespace Go.Proofs.YtnnmalpnjlnnlaaGreat
open Go.ChangeShapes Go.WideShapes Go.ChangeAt Go.RowKit
set_option linter.unusedVariables false
set_option maxRecDepth 100000
set_option maxHeartbeats 8000000
open Lv
/-- what is left of some numbers when the first k of others are gone -/
structure LeftIs (F G : List Nat) (k : Nat) (L : List Nat) : Prop where
  srt : L.Pairwise (fun x y => x ≤ y)
  once : L.Nodup
  mem : ∀ x, x ∈ L ↔ x ∈ F ∧ x ∉ G.take k
  nod : (G.take k).Nodup
  sub : ∀ x ∈ G.take k, x ∈ F
  len : L.length ≤ F.length
theorem left_start {F G : List Nat} (h : F.Nodup) : LeftIs F G 0 (srt F) :=
  ⟨srt_sorted F, (srt_perm F).nodup_iff.2 h, fun x => by rw [(srt_perm F).mem_iff]; simp, by simp, by simp, by rw [srt_len]; exact Nat.le_refl _⟩
theorem LeftIs.step {F G L : List Nat} {k i x : Nat} (h : LeftIs F G k L) (hx : G[k]? = some x) (hi : L[i]? = some x) : LeftIs F G (k + 1) (L.eraseIdx i) := by
  have hm : x ∈ L := List.mem_of_getElem? hi
  have ht : G.take (k + 1) = G.take k ++ [x] := by rw [List.take_add_one, hx]; rfl
  have hil := (List.getElem?_eq_some_iff.1 hi).1
  have hxL := (List.getElem?_eq_some_iff.1 hi).2
  have hn := h.once
  rw [List.Nodup, List.pairwise_iff_getElem] at hn
  obtain ⟨h1, h2⟩ := (h.mem x).1 hm
  refine ⟨h.srt.sublist (List.eraseIdx_sublist L i), List.Pairwise.sublist (List.eraseIdx_sublist L i) h.once, fun y => ?_, ?_, fun y hy => ?_, ?_⟩
  · rw [List.mem_eraseIdx_iff_getElem?, ht, List.mem_append]
    constructor
    · rintro ⟨j, hj, he⟩
      have hy := (h.mem y).1 (List.mem_of_getElem? he)
      refine ⟨hy.1, fun hc => ?_⟩
      rcases hc with hc | hc
      · exact hy.2 hc
      · simp only [List.mem_singleton] at hc
        subst hc
        have hjl := (List.getElem?_eq_some_iff.1 he).1
        have hjv := (List.getElem?_eq_some_iff.1 he).2
        rcases Nat.lt_or_ge j i with h3 | h3
        · exact hn j i hjl hil h3 (hjv.trans hxL.symm)
        · exact hn i j hil hjl (by omega) (hxL.trans hjv.symm)
    · rintro ⟨h3, h4⟩
      have hy : y ∈ L := (h.mem y).2 ⟨h3, fun hc => h4 (.inl hc)⟩
      obtain ⟨j, hj, he⟩ := List.getElem_of_mem hy
      refine ⟨j, fun e => ?_, by rw [List.getElem?_eq_getElem hj, he]⟩
      subst e
      exact h4 (.inr (by rw [List.mem_singleton, ← he, hxL]))
  · rw [ht, List.nodup_append]
    refine ⟨h.nod, by simp, fun a ha b hb e => ?_⟩
    simp only [List.mem_singleton] at hb
    subst e; subst hb
    exact h2 ha
  · rw [ht, List.mem_append] at hy
    rcases hy with hy | hy
    · exact h.sub y hy
    · simp only [List.mem_singleton] at hy
      subst hy; exact h1
  · have := List.length_eraseIdx_le L i
    have := h.len
    omega
theorem LeftIs.stop {F G L : List Nat} {k x : Nat} (h : LeftIs F G k L) (hx : G[k]? = some x) (hn : x ∉ L) : takes F G = false := by
  unfold takes
  rw [decide_eq_false_iff_not]
  rintro ⟨h1, h2⟩
  have hm := h2 x (List.mem_of_getElem? hx)
  refine hn ((h.mem x).2 ⟨hm, fun hc => ?_⟩)
  obtain ⟨j, hj, he⟩ := List.getElem_of_mem hc
  rw [List.length_take] at hj
  rw [List.getElem_take] at he
  rw [List.Nodup, List.pairwise_iff_getElem] at h1
  have hkl := (List.getElem?_eq_some_iff.1 hx).1
  have hkv := (List.getElem?_eq_some_iff.1 hx).2
  exact h1 j k (by omega) hkl (by omega) (he.trans hkv.symm)
theorem LeftIs.done {F G L : List Nat} (h : LeftIs F G G.length L) : takes F G = true := by
  unfold takes
  rw [decide_eq_true_iff]
  have h1 := h.nod
  have h2 := h.sub
  rw [List.take_length] at h1 h2
  exact ⟨h1, h2⟩
def zfour : Value := .agg #[.slice none 0 0, .slice none 0 0, .slice none 0 0, .slice none 0 0]
/-- what without tells -/
def WoRet (T : Nat → Lvl) (G : List Nat) (w : World) (e : Ending) (w' : World) : Prop :=
  (takes (fls T 4) G = true → ∃ f, e = .returned (.tuple #[four f, .bool true]) ∧ Four w.heap.size w' f (stay (fun l => (T l).l) G) 4) ∧ (takes (fls T 4) G = false → e = .returned (.tuple #[zfour, .bool false])) ∧ Kept w w'
theorem Four.repl {B k : Nat} {wr w2 : World} {f : Nat → Value} {L : Nat → List Meta} {v' : Value} {R : List Meta} (h : Four B wr f L 4) (hk : k < 4) (hg : wr.grownBy w2 (f k).ownBlock) (hv : w2.ownsRow B 43 5 v' R.length (mtl R)) (ho : v'.ownBlock = (f k).ownBlock) : Four B w2 (vset f k v') (vset L k R) 4 := by
  refine ⟨fun i hi => ?_, fun i j hi hj hne b hb => ?_⟩
  · by_cases e : i = k
    · subst e; rw [vset_at, vset_at]; exact hv
    · rw [vset_ne _ _ e, vset_ne _ _ e]
      refine (h.own i hi).kept hg ?_
      cases hb : (f i).ownBlock with
      | none => exact .inl rfl
      | some b => exact .inr (fun e2 => h.apart i k hi hk e b hb e2.symm)
  · by_cases e : i = k
    · subst e
      rw [vset_at, ho] at hb
      rw [vset_ne _ _ (Ne.symm hne)]
      exact h.apart i j hi hj hne b hb
    · rw [vset_ne _ _ e] at hb
      by_cases e2 : j = k
      · subst e2; rw [vset_at, ho]; exact h.apart i j hi hj hne b hb
      · rw [vset_ne _ _ e2]; exact h.apart i j hi hj hne b hb
theorem lvwo_any {T : Nat → Lvl} {w : World} {A : Option Addr} {G : List Nat} {c : Nat} (h : Tin w T) (hf : ∀ l, l < 4 → ∀ ad, (T l).A = some ad → ∃ b o, ad = ⟨b, o, none⟩) (hl : ∀ l, l < 4 → (T l).l.length ≤ 10000) (hG : Nus w A G) (hGl : G.length ≤ 100000) (hn : (fls T 4).Nodup) :
    Calls Tryz.prog 38 #[tbv T, .slice A G.length c] w (WoRet T G w) := by
  have t1 := fls_len T 10000 hl 4 (Nat.le_refl _)
  have HFI := Lib.hid (fun W (hW : Kept w W) => lvfiles_any (h.kept hW) (fun l hl2 => Nat.le_trans (hl l hl2) (by omega)))
  have HCO := Lib.hid (fun W (hW : Kept w W) => lvcopied_any (h.kept hW) hf (fun l hl2 => Nat.le_trans (hl l hl2) (by omega)))
  have HN := Lib.hid hn; have HG := Lib.hid hG; have HLL := Lib.hid hl
  unfold tbv at HFI HCO
  unfold tbv
  generalize (T 0).v = x0 at *
  generalize (T 1).v = x1 at *
  generalize (T 2).v = x2 at *
  generalize (T 3).v = x3 at *
  clear hn hG h hf hl
  have hsl := srt_len (fls T 4)
  obtain ⟨W0, hW0⟩ : ∃ W0, W0 = ((w.alloc (.cells #[x0, x1, x2, x3] 71)).alloc (.cells #[.slice A G.length c] 29)).alloc (.cells #[.slice none 0 0, .slice none 0 0, .slice none 0 0, .slice none 0 0] 71) := ⟨_, rfl⟩
  have g0 : Kept w W0 := by rw [hW0]; exact (((Kept.refl _).alloc _).alloc _).alloc _
  have b0 : W0.heap[w.heap.size]? = some (.cells #[x0, x1, x2, x3] 71 (0, 0)) := by rw [hW0]; exact (malloc_old _ _ (by simp <;> omega)).trans ((malloc_old _ _ (by simp)).trans (malloc_new w _))
  have b1 : W0.heap[w.heap.size + 1]? = some (.cells #[.slice A G.length c] 29 (0, 0)) := by
    have := malloc_new (w.alloc (.cells #[x0, x1, x2, x3] 71)) (.cells #[.slice A G.length c] 29)
    rw [show (w.alloc (.cells #[x0, x1, x2, x3] 71)).heap.size = w.heap.size + 1 from by simp] at this
    rw [hW0]; exact (malloc_old _ _ (by simp)).trans this
  have b2 : W0.heap[w.heap.size + 1 + 1]? = some (.cells #[.slice none 0 0, .slice none 0 0, .slice none 0 0, .slice none 0 0] 71 (0, 0)) := by
    have := malloc_new ((w.alloc (.cells #[x0, x1, x2, x3] 71)).alloc (.cells #[.slice A G.length c] 29)) (.cells #[.slice none 0 0, .slice none 0 0, .slice none 0 0, .slice none 0 0] 71)
    rw [show ((w.alloc (.cells #[x0, x1, x2, x3] 71)).alloc (.cells #[.slice A G.length c] 29)).heap.size = w.heap.size + 1 + 1 from by simp] at this
    rw [hW0]; exact this
  have HW0 := Lib.hid hW0; have G0 := Lib.hid g0; have B0 := Lib.hid b0; have B1 := Lib.hid b1; have B2 := Lib.hid b2
  clear hW0 g0 b0 b1 b2
  go_enter Tryz.func38, Tryz.ntmps38
  go_upto_region 1 with fail
  rw [← HW0.out]
  obtain ⟨k0, k1, k2, k3⟩ := four_cells B0.out
  go_wp2_with fail
  refine (HFI.out _ G0.out).mono ?_
  rintro e w1 ⟨v, rfl, hown, g1⟩
  rw [← hsl] at hown
  have HS := Lib.hid (left_start (G := G) HN.out)
  have hFl : (fls T 4).length ≤ 40000 := by omega
  have HB01 := Lib.hid (hp_kept B0.out g1)
  have HB11 := Lib.hid (hp_kept B1.out g1)
  have HB21 := Lib.hid (hp_kept B2.out g1)
  have HK1 := Lib.hid (kept_trans G0.out g1)
  have hown3 := own_base hown (B' := w.heap.size + 1 + 1 + 1) (by have := mheap_lt B2.out; omega)
  have HOW := Lib.hid hown3
  have c1 := mcell HB11.out 0 (v := .slice A G.length c) (by rfl)
  generalize hF : fls T 4 = F at *
  have HF := Lib.hid hF
  obtain ⟨VA, vc, rfl⟩ := own_slice hown
  clear hown hown3 g1 k0 k1 k2 k3 hF hsl t1
  go_upto_region 2 with fail
  go_wp2_with fail
  go_loopw [6, 16] (fun v x wr => ∃ (k : Nat) (L : List Nat), k ≤ G.length ∧ x = .int .i64 k ∧ Hid (LeftIs F G k L) ∧ Hid (wr.ownsRow (w.heap.size + 1 + 1 + 1) 32 1 v L.length (nsc L)) ∧ Hid (wr.heap[w.heap.size]? = some (.cells #[x0, x1, x2, x3] 71 (0, 0))) ∧ Hid (wr.heap[w.heap.size + 1]? = some (.cells #[.slice A G.length c] 29 (0, 0))) ∧ Hid (wr.heap[w.heap.size + 1 + 1]? = some (.cells #[.slice none 0 0, .slice none 0 0, .slice none 0 0, .slice none 0 0] 71 (0, 0))) ∧ Hid (Kept w wr)) (fun v x _ => G.length - (intOf x).toNat)
  case atStart => exact ⟨0, srt F, Nat.zero_le _, rfl, HS, HOW, HB01, HB11, HB21, HK1⟩
  case round =>
    clear HS HOW HB01 HB11 HB21 HK1 c1
    obtain ⟨k, L, hk, rfl, HS, HOW, HB0, HB1, HB2, HK⟩ := hrel
    obtain ⟨VA, vc, rfl⟩ := own_slice HOW.out
    by_cases hlt : k < G.length
    · obtain ⟨x, hx⟩ : ∃ x, G[k]? = some x := ⟨_, List.getElem?_eq_getElem hlt⟩
      obtain ⟨b, o, rfl, hb, cx⟩ := (Nus.kept HG.out HK.out) k x hx
      have hLl : L.length ≤ 100000 := by have := HS.out.len; omega
      have HBI := Lib.hid (lvbin_own HOW.out hLl HS.out.srt x)
      have HST := Lib.hid (fun hn => HS.out.stop hx hn)
      have HSS := Lib.hid (fun i hi => HS.out.step (i := i) hx hi)
      clear hx
      go_wp2_with fail
      refine HBI.out.mono ?_
      rintro e w2 ⟨i, f, rfl, h1, h2, rfl⟩
      cases f
      · have HT := Lib.hid (HST.out (h2 rfl))
        have f0 := mfrozen HB2.out 0
        have f1 := mfrozen HB2.out 1
        have f2 := mfrozen HB2.out 2
        have f3 := mfrozen HB2.out 3
        obtain ⟨z0, z1, z2, z3⟩ := four_cells HB2.out
        clear h1 h2 cx
        go_wp2_with fail
        have n2' := lvset (lvset (lvset (lvset HB2.out 0 (.slice none 0 0)) 1 (.slice none 0 0)) 2 (.slice none 0 0)) 3 (.slice none 0 0)
        have hle : w.heap.size ≤ w.heap.size + 1 + 1 := by omega
        have gz : Kept w ((((w2.setCell ⟨w.heap.size + 1 + 1, 0, none⟩ (.slice none 0 0)).setCell ⟨w.heap.size + 1 + 1, 1, none⟩ (.slice none 0 0)).setCell ⟨w.heap.size + 1 + 1, 2, none⟩ (.slice none 0 0)).setCell ⟨w.heap.size + 1 + 1, 3, none⟩ (.slice none 0 0)) := Below.setCell (Below.setCell (Below.setCell (Below.setCell HK.out hle _) hle _) hle _) hle _
        generalize (((w2.setCell ⟨w.heap.size + 1 + 1, 0, none⟩ (.slice none 0 0)).setCell ⟨w.heap.size + 1 + 1, 1, none⟩ (.slice none 0 0)).setCell ⟨w.heap.size + 1 + 1, 2, none⟩ (.slice none 0 0)).setCell ⟨w.heap.size + 1 + 1, 3, none⟩ (.slice none 0 0) = wz at *
        obtain ⟨k0, k1, k2, k3⟩ := four_cells n2'
        refine bodyPost_ret (v := .tuple #[zfour, .bool false]) (by simp [results, zfour, Tryz.results38, go_sem, k0, k1, k2, k3]) rfl ⟨fun ht => ?_, fun _ => rfl, gz⟩
        rw [HF.out, HT.out] at ht; cases ht
      · have hi := h1 rfl
        have hil := (List.getElem?_eq_some_iff.1 hi).1
        have HS2 := Lib.hid (HSS.out i hi)
        have HD := Lib.hid (lvdelU_own HOW.out i hil)
        have e1 : ((i + 1 : Nat) : Int) = (i : Int) + 1 := by omega
        rw [e1] at HD
        clear h1 h2 cx hi e1
        go_wp2_with fail
        refine HD.out.mono ?_
        rintro e w3 ⟨v', rfl, hown2, hg, hob⟩
        have hol := fun b (hb : (Value.slice VA L.length vc).ownBlock = some b) => (own_new HOW.out hb).1
        have hsame : ∀ b o, w2.heap[b]? = some o → b < w.heap.size + 1 + 1 + 1 → w3.heap[b]? = some o := fun b o hb hn => by
          rw [hg.block b (mheap_lt hb) (fun e => by have := hol b e.symm; omega)]; exact hb
        have HOW2 := Lib.hid hown2
        have HB02 := Lib.hid (hsame _ _ HB0.out (by omega))
        have HB12 := Lib.hid (hsame _ _ HB1.out (by omega))
        have HB22 := Lib.hid (hsame _ _ HB2.out (by omega))
        have HK2 := Lib.hid (Below.grown HK.out hg (Below.size HK.out) (fun b hb => by have := hol b hb; omega))
        clear hown2 hg hob hol hsame
        go_wp2_with fail
        go_roundw
        case rel => exact ⟨k + 1, L.eraseIdx i, by omega, by go_num, HS2, HOW2, HB02, HB12, HB22, HK2⟩
        case measure => simp [intOf]; omega
    · obtain rfl : k = G.length := by omega
      have HT := Lib.hid HS.out.done
      obtain ⟨k0, k1, k2, k3⟩ := four_cells HB0.out
      go_wp2_with fail
      refine (HCO.out _ HK.out).mono ?_
      rintro e w3 ⟨f, rfl, hF4, g3⟩
      have h4 : Four (w.heap.size + 1 + 1 + 1) w3 f (fun l => (T l).l) 4 := ⟨fun i hi => own_base (hF4.own i hi) (by have := mheap_lt HB2.out; omega), hF4.apart⟩
      have HB03 := Lib.hid (hp_kept HB0.out g3)
      have HB13 := Lib.hid (hp_kept HB1.out g3)
      have HB23 := Lib.hid (hp_kept HB2.out g3)
      have HK3 := Lib.hid (kept_trans HK.out g3)
      have H4 := Lib.hid h4
      clear hF4 h4 g3 k0 k1 k2 k3 HS HOW HB0 HB1 HB2 HK
      obtain ⟨A0, c0, e0⟩ := own_slice (H4.out.own 0 (by omega))
      obtain ⟨A1, c1, e1⟩ := own_slice (H4.out.own 1 (by omega))
      obtain ⟨A2, c2, e2⟩ := own_slice (H4.out.own 2 (by omega))
      obtain ⟨A3, c3, e3⟩ := own_slice (H4.out.own 3 (by omega))
      generalize ((fun l => (T l).l) 0).length = n0 at e0
      generalize ((fun l => (T l).l) 1).length = n1 at e1
      generalize ((fun l => (T l).l) 2).length = n2 at e2
      generalize ((fun l => (T l).l) 3).length = n3 at e3
      have hR : four f = .agg #[.slice A0 n0 c0, .slice A1 n1 c1, .slice A2 n2 c2, .slice A3 n3 c3] := by unfold four; rw [e0, e1, e2, e3]
      have HB0' := Lib.hid (show ((((w3.setCell ⟨w.heap.size, 0, none⟩ (.slice A0 n0 c0)).setCell ⟨w.heap.size, 1, none⟩ (.slice A1 n1 c1)).setCell ⟨w.heap.size, 2, none⟩ (.slice A2 n2 c2)).setCell ⟨w.heap.size, 3, none⟩ (.slice A3 n3 c3)).heap[w.heap.size]? = some (.cells #[f 0, f 1, f 2, f 3] 71 (0, 0)) by
        rw [e0, e1, e2, e3]
        exact lvset (lvset (lvset (lvset HB03.out 0 (.slice A0 n0 c0)) 1 (.slice A1 n1 c1)) 2 (.slice A2 n2 c2)) 3 (.slice A3 n3 c3))
      rw [hR]
      clear hR e0 e1 e2 e3
      have f0 := mfrozen HB03.out 0
      have f1 := mfrozen HB03.out 1
      have f2 := mfrozen HB03.out 2
      have f3 := mfrozen HB03.out 3
      obtain ⟨z0, z1, z2, z3⟩ := four_cells HB03.out
      have H4' := Lib.hid ((((H4.out.set (b := w.heap.size) (by omega) 0 (.slice A0 n0 c0)).set (b := w.heap.size) (by omega) 1 (.slice A1 n1 c1)).set (b := w.heap.size) (by omega) 2 (.slice A2 n2 c2)).set (b := w.heap.size) (by omega) 3 (.slice A3 n3 c3))
      have HB1' := Lib.hid (lvset_ne (lvset_ne (lvset_ne (lvset_ne HB13.out (b0 := w.heap.size) (by omega) 0 (.slice A0 n0 c0)) (b0 := w.heap.size) (by omega) 1 (.slice A1 n1 c1)) (b0 := w.heap.size) (by omega) 2 (.slice A2 n2 c2)) (b0 := w.heap.size) (by omega) 3 (.slice A3 n3 c3))
      have HB2' := Lib.hid (lvset_ne (lvset_ne (lvset_ne (lvset_ne HB23.out (b0 := w.heap.size) (by omega) 0 (.slice A0 n0 c0)) (b0 := w.heap.size) (by omega) 1 (.slice A1 n1 c1)) (b0 := w.heap.size) (by omega) 2 (.slice A2 n2 c2)) (b0 := w.heap.size) (by omega) 3 (.slice A3 n3 c3))
      have hle : w.heap.size ≤ w.heap.size := Nat.le_refl _
      have HK' := Lib.hid (show Kept w ((((w3.setCell ⟨w.heap.size, 0, none⟩ (.slice A0 n0 c0)).setCell ⟨w.heap.size, 1, none⟩ (.slice A1 n1 c1)).setCell ⟨w.heap.size, 2, none⟩ (.slice A2 n2 c2)).setCell ⟨w.heap.size, 3, none⟩ (.slice A3 n3 c3)) from Below.setCell (Below.setCell (Below.setCell (Below.setCell HK3.out hle _) hle _) hle _) hle _)
      clear HB03 HB13 HB23 HK3 H4
      go_wp2_with fail
      clear f0 f1 f2 f3 z0 z1 z2 z3
      generalize (((w3.setCell ⟨w.heap.size, 0, none⟩ (.slice A0 n0 c0)).setCell ⟨w.heap.size, 1, none⟩ (.slice A1 n1 c1)).setCell ⟨w.heap.size, 2, none⟩ (.slice A2 n2 c2)).setCell ⟨w.heap.size, 3, none⟩ (.slice A3 n3 c3) = w4 at *
      go_loopw [37] (fun x wr => ∃ (k : Nat) (f : Nat → Value) (L : Nat → List Meta), k ≤ 4 ∧ x = .int .i64 k ∧ Hid (∀ l, L l = if l < k then stay (fun l => (T l).l) G l else (T l).l) ∧ Hid (Four (w.heap.size + 1 + 1 + 1) wr f L 4) ∧ Hid (wr.heap[w.heap.size]? = some (.cells #[f 0, f 1, f 2, f 3] 71 (0, 0))) ∧ Hid (wr.heap[w.heap.size + 1]? = some (.cells #[.slice A G.length c] 29 (0, 0))) ∧ Hid (wr.heap[w.heap.size + 1 + 1]? = some (.cells #[.slice none 0 0, .slice none 0 0, .slice none 0 0, .slice none 0 0] 71 (0, 0))) ∧ Hid (Kept w wr)) (fun x _ => 4 - (intOf x).toNat)
      case atStart => exact ⟨0, f, fun l => (T l).l, by omega, rfl, Lib.hid (fun l => by simp), H4', HB0', HB1', HB2', HK'⟩
      case round =>
        clear H4' HB0' HB1' HB2' HK'
        obtain ⟨k, f, L, hk, rfl, HLE, H4, HB0, HB1, HB2, HK⟩ := hrel
        by_cases hk4 : k < 4
        · have hLk : L k = (T k).l := by rw [HLE.out, if_neg (by omega)]
          have hown := H4.out.own k hk4
          rw [hLk] at hown
          have hll := HLL.out k hk4
          obtain ⟨VA, vc, ev⟩ := own_slice hown
          have hol : ∀ b, (f k).ownBlock = some b → w.heap.size + 1 + 1 + 1 ≤ b := fun b e => (own_new hown e).1
          have hgK : ∀ W, wr.grownBy W (f k).ownBlock → Kept w W := fun W hW => Below.grown HK.out hW (Below.size HK.out) (fun b hb => by have := hol b hb; omega)
          have hcl := fun (W : World) (x : Meta) (hW : wr.grownBy W (f k).ownBlock) => lvgone_any (w := W) (bx := w.heap.size + 1) (c := c) (Nus.kept HG.out (hgK W hW)) hGl (by
            have hb := (hW.block _ (mheap_lt HB1.out) (fun e => by have := hol _ e.symm; omega)).trans HB1.out
            exact mcell hb 0 (by rfl)) (Nat.lt_of_lt_of_le (mheap_lt HB1.out) hW.size) x
          have HD := Lib.hid (lvdelf_any hown (by omega) (.pointer (some ⟨w.heap.size + 1, 0, none⟩)) (fun m => G.contains m.file) hcl)
          have hb0 := mcell HB0.out k (four_get f k hk4)
          rw [ev] at hb0 HD
          have HEV := Lib.hid ev
          have HOL := Lib.hid hol
          have HST := Lib.hid (show ((T k).l.filter fun m => !G.contains m.file) = stay (fun l => (T l).l) G k from rfl)
          rw [HST.out] at HD
          clear hcl hgK hol hown hLk hll ev
          generalize hRk : stay (fun l => (T l).l) G k = Rk at *
          have HRK := Lib.hid hRk
          clear hRk
          generalize (T k).l.length = N at *
          go_wp2_with fail
          refine HD.out.mono ?_
          rintro e w5 ⟨v', rfl, hown5, hg5, hob⟩
          rw [← HEV.out] at hg5 hob
          obtain ⟨VB, vd, rfl⟩ := own_slice hown5
          have H5 := Lib.hid (H4.out.repl hk4 hg5 hown5 hob)
          have hsame : ∀ b o, wr.heap[b]? = some o → b < w.heap.size + 1 + 1 + 1 → w5.heap[b]? = some o := fun b o hb hn => by
            rw [hg5.block b (mheap_lt hb) (fun e => by have := HOL.out b e.symm; omega)]; exact hb
          have HB05 := Lib.hid (hsame _ _ HB0.out (by omega))
          have HB15 := Lib.hid (hsame _ _ HB1.out (by omega))
          have HB25 := Lib.hid (hsame _ _ HB2.out (by omega))
          have HK5 := Lib.hid (Below.grown HK.out hg5 (Below.size HK.out) (fun b hb => by have := HOL.out b hb; omega))
          have f0 := mfrozen HB05.out k
          have b0 := mcell HB05.out k (four_get f k hk4)
          rw [HEV.out] at b0
          clear hown5 hg5 hob hsame hb0
          go_wp2_with fail
          go_roundw
          case rel =>
            refine ⟨k + 1, vset f k (.slice VB Rk.length vd), vset L k Rk, by omega, by go_num, Lib.hid (fun l => ?_), H5.out.set (by omega) _ _, ?_, ?_, ?_, ?_⟩
            · by_cases e : l = k
              · subst e; rw [vset_at, if_pos (by omega), HRK.out]
              · rw [vset_ne _ _ e, HLE.out]
                by_cases e2 : l < k
                · rw [if_pos e2, if_pos (by omega)]
                · rw [if_neg e2, if_neg (by omega)]
            · have := lvset HB05.out k (.slice VB Rk.length vd)
              rw [four_set f k _ hk4] at this
              exact this
            · exact lvset_ne HB15.out (by omega) k _
            · exact lvset_ne HB25.out (by omega) k _
            · exact Below.setCell HK5.out (Nat.le_refl _) _
          case measure => simp [intOf]; omega
        · obtain rfl : k = 4 := by omega
          have HST := Lib.hid (show Four (w.heap.size + 1 + 1 + 1) wr f (stay (fun l => (T l).l) G) 4 from ⟨fun i hi => by have := H4.out.own i hi; rw [HLE.out, if_pos hi] at this; exact this, H4.out.apart⟩)
          clear H4 HLE
          obtain ⟨A0, c0, e0⟩ := own_slice (HST.out.own 0 (by omega))
          obtain ⟨A1, c1, e1⟩ := own_slice (HST.out.own 1 (by omega))
          obtain ⟨A2, c2, e2⟩ := own_slice (HST.out.own 2 (by omega))
          obtain ⟨A3, c3, e3⟩ := own_slice (HST.out.own 3 (by omega))
          generalize (stay (fun l => (T l).l) G 0).length = n0 at e0
          generalize (stay (fun l => (T l).l) G 1).length = n1 at e1
          generalize (stay (fun l => (T l).l) G 2).length = n2 at e2
          generalize (stay (fun l => (T l).l) G 3).length = n3 at e3
          have HR := Lib.hid (show four f = .agg #[.slice A0 n0 c0, .slice A1 n1 c1, .slice A2 n2 c2, .slice A3 n3 c3] by unfold four; rw [e0, e1, e2, e3])
          rw [e0, e1, e2, e3] at HB0
          clear e0 e1 e2 e3
          obtain ⟨b0, b1, b2, b3⟩ := four_cells HB0.out
          obtain ⟨z0, z1, z2, z3⟩ := four_cells HB2.out
          have y0 := mfrozen HB2.out 0
          have y1 := mfrozen HB2.out 1
          have y2 := mfrozen HB2.out 2
          have y3 := mfrozen HB2.out 3
          go_wp2_with fail
          have n2' := lvset (lvset (lvset (lvset HB2.out 0 (.slice A0 n0 c0)) 1 (.slice A1 n1 c1)) 2 (.slice A2 n2 c2)) 3 (.slice A3 n3 c3)
          have HFZ := Lib.hid ((((HST.out.set (b := w.heap.size + 1 + 1) (by omega) 0 (.slice A0 n0 c0)).set (b := w.heap.size + 1 + 1) (by omega) 1 (.slice A1 n1 c1)).set (b := w.heap.size + 1 + 1) (by omega) 2 (.slice A2 n2 c2)).set (b := w.heap.size + 1 + 1) (by omega) 3 (.slice A3 n3 c3))
          have hle : w.heap.size ≤ w.heap.size + 1 + 1 := by omega
          have gz : Kept w ((((wr.setCell ⟨w.heap.size + 1 + 1, 0, none⟩ (.slice A0 n0 c0)).setCell ⟨w.heap.size + 1 + 1, 1, none⟩ (.slice A1 n1 c1)).setCell ⟨w.heap.size + 1 + 1, 2, none⟩ (.slice A2 n2 c2)).setCell ⟨w.heap.size + 1 + 1, 3, none⟩ (.slice A3 n3 c3)) := Below.setCell (Below.setCell (Below.setCell (Below.setCell HK.out hle _) hle _) hle _) hle _
          generalize (((wr.setCell ⟨w.heap.size + 1 + 1, 0, none⟩ (.slice A0 n0 c0)).setCell ⟨w.heap.size + 1 + 1, 1, none⟩ (.slice A1 n1 c1)).setCell ⟨w.heap.size + 1 + 1, 2, none⟩ (.slice A2 n2 c2)).setCell ⟨w.heap.size + 1 + 1, 3, none⟩ (.slice A3 n3 c3) = wz at *
          obtain ⟨k0, k1, k2, k3⟩ := four_cells n2'
          refine bodyPost_ret (v := .tuple #[.agg #[.slice A0 n0 c0, .slice A1 n1 c1, .slice A2 n2 c2, .slice A3 n3 c3], .bool true]) (by simp [results, Tryz.results38, go_sem, k0, k1, k2, k3]) rfl ⟨fun _ => ⟨f, by rw [HR.out], ⟨fun i hi => own_base (HFZ.out.own i hi) (by omega), HFZ.out.apart⟩⟩, fun ht => ?_, gz⟩
          rw [HF.out, HT.out] at ht; cases ht
end Go.Proofs.YtnnmalpnjlnnlaaGreat

