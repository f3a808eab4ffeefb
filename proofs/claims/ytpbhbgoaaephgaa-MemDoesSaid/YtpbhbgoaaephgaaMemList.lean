/-
  Lists that package mem tells: all entries, those from a key on, towers.
-/
import Derived.Test.YtpbhbgoaaephgaaMemFns
import Derived.Deep.RegionWith
namespace Go.Proofs.Ytpbhbgoaaephgaa
open Go.ChangeShapes Go.WideShapes Go.ChangeAt Go.RowKit
set_option linter.unusedVariables false
set_option maxRecDepth 100000
set_option maxHeartbeats 1000000

theorem own_slice {w : World} {base e size n : Nat} {v : Value} {xs : List Value} (h : w.ownsRow base e size v n xs) : ∃ A c, v = .slice A n c := by
  rcases h.2 with ⟨e1, e0⟩ | ⟨r, cap, cur, e1, _⟩
  · have := h.1; exact ⟨none, 0, by rw [e1, e0]⟩
  · exact ⟨_, _, e1⟩
/-- entries as cells -/
def ecs (x : Mm.Ent) : List Value := [.string (bs x.key), .int .u64 (x.seq : Nat), .bool x.del, .string (bs x.val)]
def elc : List Mm.Ent → List Value
  | [] => []
  | x :: l => ecs x ++ elc l
theorem elc_len : ∀ (l : List Mm.Ent), (elc l).length = l.length * 4
  | [] => rfl
  | x :: l => by simp only [elc, List.length_append, elc_len l, ecs, List.length_cons, List.length_nil]; omega
theorem elc_app : ∀ (l m : List Mm.Ent), elc (l ++ m) = elc l ++ elc m
  | [], m => rfl
  | x :: l, m => by simp only [List.cons_append, elc, elc_app l m, List.append_assoc]
theorem elc_get : ∀ {l : List Mm.Ent} {j : Nat} {x : Mm.Ent}, l[j]? = some x → ∀ i u, (ecs x)[i]? = some u → (elc l)[j * 4 + i]? = some u
  | [], j, x, h, _, _, _ => by simp at h
  | y :: l, 0, x, h, i, u, hu => by
    simp at h; subst h
    have hi := (List.getElem?_eq_some_iff.1 hu).1
    rw [Nat.zero_mul, Nat.zero_add, elc, List.getElem?_append_left (by exact hi)]
    exact hu
  | y :: l, j + 1, x, h, i, u, hu => by
    have := elc_get (l := l) (j := j) (x := x) (by simpa using h) i u hu
    rw [elc, List.getElem?_append_right (by simp [ecs]; omega)]
    simp only [ecs, List.length_cons, List.length_nil]
    rw [show (j + 1) * 4 + i - (0 + 1 + 1 + 1 + 1) = j * 4 + i by omega]
    exact this
/-- a list of entries in memory -/
def Els (w : World) (A : Option Addr) (l : List Mm.Ent) : Prop := ∀ (j : Nat) (x : Mm.Ent), l[j]? = some x → ∃ b o, A = some ⟨b, o, none⟩ ∧ b < w.heap.size ∧ w.cell? ⟨b, o + j * 4, none⟩ = some (.string (bs x.key)) ∧ w.cell? ⟨b, o + j * 4 + 1, none⟩ = some (.int .u64 (x.seq : Nat)) ∧ w.cell? ⟨b, o + j * 4 + 2, none⟩ = some (.bool x.del) ∧ w.cell? ⟨b, o + j * 4 + 3, none⟩ = some (.string (bs x.val))
theorem Els.kept {w w' : World} {A : Option Addr} {l : List Mm.Ent} (h : Els w A l) (k : Kept w w') : Els w' A l := fun j x hx => by
  obtain ⟨b, o, e, hb, h0, h1, h2, h3⟩ := h j x hx
  exact ⟨b, o, e, Nat.lt_of_lt_of_le hb (Below.size k), by rw [kept_cell k hb]; exact h0, by rw [kept_cell k hb]; exact h1, by rw [kept_cell k hb]; exact h2, by rw [kept_cell k hb]; exact h3⟩
/-- a list of entries in new memory -/
structure Elr (n : Nat) (w : World) (A : Option Addr) (c : Nat) (l : List Mm.Ent) : Prop where
  els : Els w A l
  new : ∀ b o, A = some ⟨b, o, none⟩ → n ≤ b
  cap : l.length ≤ c
  most : c ≤ maxLen
theorem Elr.kept {n c : Nat} {w w' : World} {A : Option Addr} {l : List Mm.Ent} (h : Elr n w A c l) (k : Kept w w') : Elr n w' A c l := ⟨h.els.kept k, h.new, h.cap, h.most⟩
theorem Elr.mono {n m c : Nat} {w : World} {A : Option Addr} {l : List Mm.Ent} (h : Elr n w A c l) (k : m ≤ n) : Elr m w A c l := ⟨h.els, fun b o e => Nat.le_trans k (h.new b o e), h.cap, h.most⟩
theorem els_own {w : World} {base n : Nat} {v : Value} {l : List Mm.Ent} (h : w.ownsRow base 51 4 v n (elc l)) : ∃ A c, v = .slice A l.length c ∧ n = l.length ∧ Elr base w A c l := by
  have hl : l.length = n := by have := h.1; rw [elc_len] at this; omega
  rcases h.2 with ⟨e, e0⟩ | ⟨r, cap, cur, e, hbs, hb, hnc, _, _, htk⟩
  · have : l = [] := List.eq_nil_of_length_eq_zero (by omega)
    subst this
    exact ⟨none, 0, e, by omega, ⟨fun j x hx => by simp at hx, fun b o e => (by cases e), by simp, by simp⟩⟩
  · refine ⟨some ⟨r, 0, none⟩, cap, by rw [hl]; exact e, hl.symm, ⟨fun j x hx => ?_, fun b o e => (by cases e; exact hbs), by omega, by omega⟩⟩
    have hj := (List.getElem?_eq_some_iff.1 hx).1
    have hcell : ∀ i u, i < n * 4 → (elc l)[i]? = some u → w.cell? ⟨r, i, none⟩ = some u := fun i u hi hu => by
      rw [← htk, List.getElem?_take, if_pos hi] at hu
      exact mcell hb i (by simpa using hu)
    have hg := elc_get hx
    refine ⟨r, 0, rfl, (Array.getElem?_eq_some_iff.1 hb).1, ?_, ?_, ?_, ?_⟩
    · rw [Nat.zero_add]; exact hcell _ _ (by omega) (hg 0 _ rfl)
    · rw [Nat.zero_add]; exact hcell _ _ (by omega) (hg 1 _ rfl)
    · rw [Nat.zero_add]; exact hcell _ _ (by omega) (hg 2 _ rfl)
    · rw [Nat.zero_add]; exact hcell _ _ (by omega) (hg 3 _ rfl)
def zentV : Value := .agg #[.string ⟨#[]⟩, .int .u64 0, .bool false, .string ⟨#[]⟩]
theorem mentInfo : (Try.prog.info? 51).map (fun i => (i.zero, i.size, i.bytes)) = some (some zentV, 4, 48) := by kernel_rfl
theorem maddr_add (b j : Nat) : (⟨b, 0, none⟩ : Addr).add j = ⟨b, j, none⟩ := by unfold Addr.add; split <;> simp_all
theorem mcells_new4 (w : World) (x y z q : Value) (t : TypeId) (bl : Nat) (hb : bl = w.heap.size) : ∀ j u, [x, y, z, q][j]? = some u → (w.alloc (.cells #[x, y, z, q] t)).cell? ((⟨bl, 0, none⟩ : Addr).add j) = some u := by
  subst hb
  intro j u hj
  rw [maddr_add]
  exact mcell (malloc_new w _) j (by simpa using hj)
/-- how long a slice is -/
def slen : Value → Nat
  | .slice _ n _ => n
  | _ => 0
theorem take_e {E : List Mm.Ent} {k : Nat} {x : Mm.Ent} (h : E[k]? = some x) : elc (E.take (k + 1)) = elc (E.take k) ++ ecs x := by
  rw [List.take_add_one, h, elc_app]
  simp [elc]
/-- where links lead at the lowest level, from a node on -/
theorem IsTab.low {w : World} {p : Nat} {N : List Mm.Nd} {g : Nat → Nat → Option Nat} (h : IsTab w p N g) {P R : List Mm.Nd} (hN : N = P ++ R) {k : Nat} {y : Mm.Nd} (hy : R[k]? = some y) : g y.b 0 = (R[k + 1]?).map Mm.Nd.b := by
  have hs : R = R.take k ++ y :: R.drop (k + 1) := by
    conv => lhs; rw [← List.take_append_drop k R]
    rw [List.drop_eq_getElem?_toList_append, hy]
    rfl
  have := h.next (j := 0) (by omega) (u := P ++ (R.take k ++ [y])) (v := R.drop (k + 1)) (by
    rw [fl_low (low_of h.good), hN]
    conv => lhs; rw [hs]
    simp)
  rw [Mm.blks_app, Mm.blks_app, Mm.lst_app, Mm.lst_app] at this
  simp only [List.head?_drop] at this
  exact this
theorem mentries_any {w : World} {p : Nat} {N : List Mm.Nd} {g : Nat → Nat → Option Nat} (h : IsTab w p N g) {P R : List Mm.Nd} (hN : N = P ++ R) (n : Int) (h1 : -9223372036854775808 ≤ n) (h2 : n ≤ 9223372036854775807) :
    Calls Try.prog 64 #[pv ((R[0]?).map Mm.Nd.b), .int .i64 n] w fun e w' => ∃ B c, e = .returned (.slice B ((R.map Mm.Nd.e).take n.toNat).length c) ∧ Elr w.heap.size w' B c ((R.map Mm.Nd.e).take n.toNat) ∧ Kept w w' := by
  obtain ⟨i0, hi, hz0, hz1, hz2⟩ := info_parts mentInfo
  have HI := Lib.hid hi; have HZ0 := Lib.hid hz0; have HZ1 := Lib.hid hz1; have HZ2 := Lib.hid hz2
  have hR : R.length ≤ 1000 := by have := h.few; rw [hN, List.length_append] at this; omega
  have HT := Lib.hid h
  have HL := Lib.hid (fun k y (hy : R[k]? = some y) => h.low hN hy)
  have HM := Lib.hid (fun k y (hy : R[k]? = some y) => show y ∈ N by rw [hN]; exact List.mem_append.2 (.inr (List.mem_of_getElem? hy)))
  have HE := Lib.hid (fun k y (hy : R[k]? = some y) => take_e (E := R.map Mm.Nd.e) (k := k) (x := y.e) (by rw [List.getElem?_map, hy]; rfl))
  have HEL := Lib.hid (show (R.map Mm.Nd.e).length = R.length by simp)
  generalize R.map Mm.Nd.e = E at *
  generalize hMM : E.take n.toNat = M
  have HMM := Lib.hid hMM
  clear hi hz0 hz1 hz2 h hN hMM
  go_enter Try.func64, Try.ntmps64
  go_wp2_with fail
  go_loopw [0, 5] (fun x v wr => ∃ k : Nat, k ≤ R.length ∧ k ≤ n.toNat ∧ x = pv ((R[k]?).map Mm.Nd.b) ∧ wr.ownsRow w.heap.size 51 4 v k (elc (E.take k)) ∧ Kept w wr) (fun _ v _ => R.length - slen v)
  case atStart => exact ⟨0, Nat.zero_le _, Nat.zero_le _, rfl, World.ownsRow_nil _ _ _ _, Kept.refl _⟩
  case round =>
    obtain ⟨k, hk, hkn, rfl, hown, hkr⟩ := hrel
    have hbase : w.heap.size ≤ wr.heap.size := Below.size hkr
    obtain ⟨A, c, rfl⟩ := own_slice hown
    by_cases hlt : k < R.length
    · obtain ⟨y, hy⟩ : ∃ y, R[k]? = some y := ⟨_, List.getElem?_eq_getElem hlt⟩
      rw [hy, show pv (Option.map Mm.Nd.b (some y)) = .pointer (some ⟨y.b, 0, none⟩) from rfl]
      obtain ⟨b0, b1, b2, b3, b4⟩ := (HT.out.mem.kept hkr).ent (HM.out k y hy)
      have b5 := HT.out.mem.link (List.mem_cons_of_mem p (List.mem_map.2 ⟨y, HM.out k y hy, rfl⟩)) (j := 0) (by omega)
      rw [HL.out k y hy] at b5
      have B5 := Lib.hid b5
      have HST := Lib.hid (HE.out k y hy)
      unfold ecs at HST
      have hyb := HT.out.mem.lt (List.mem_cons_of_mem p (List.mem_map.2 ⟨y, HM.out k y hy, rfl⟩))
      by_cases hn : (k : Int) < n
      · have d1 : decide ((k : Int) < n) = true := decide_eq_true hn
        clear hy b5
        go_wp2_with (at_builtin; refine wpList_append_own _ rfl _ _ 46 rfl w.heap.size 51 i0 zentV 4 48 Try.underlying46 HI.out HZ0.out HZ1.out HZ2.out rfl (by decide) _ k (elc (E.take k)) rfl (hown.alloc _) ⟨wr.heap.size, 0, none⟩ 1 1 [.string (bs y.e.key), .int .u64 (y.e.seq : Nat), .bool y.e.del, .string (bs y.e.val)] rfl rfl (mcells_new4 _ _ _ _ _ _ _ rfl) (by simp [Value.oneCell']) (by unfold maxLen; omega) (by omega) (by simp; omega) ?_)
        intro v' w2 hown2 hg _
        have g2 : Kept w w2 := Below.grown (hkr.alloc _) hg (by simp; omega) (fun b hb => (hown.lt b hb).1)
        rw [← HST.out] at hown2
        have b6 := (kept_cell g2 (p := ⟨y.b, 5 + 0, none⟩) hyb).trans B5.out
        obtain ⟨A2, c2, rfl⟩ := own_slice hown2
        clear b0 b1 b2 b3 b4 hown hg
        go_wp2_with fail
        go_roundw
        case rel => exact ⟨k + 1, by omega, by omega, rfl, hown2, g2⟩
        case measure => simp [slen]; omega
      · have d1 : decide ((k : Int) < n) = false := decide_eq_false hn
        have e1 : n.toNat = k := by omega
        have E1 := Lib.hid e1
        clear hy b5 e1 b0 b1 b2 b3 b4
        obtain ⟨B, c', e2, e3, ht⟩ := els_own hown
        have E2 := Lib.hid e2; have E3 := Lib.hid e3
        clear e2 e3
        go_wp2_with fail
        go_ret
        exact ⟨B, c', by rw [← HMM.out, E1.out]; exact congrArg Ending.returned E2.out, by rw [← HMM.out, E1.out]; exact ht, hkr⟩
    · have e : k = R.length := by omega
      have hx : R[k]? = none := by rw [List.getElem?_eq_none_iff]; omega
      rw [hx, show pv (Option.map Mm.Nd.b none) = .pointer none from rfl]
      have e1 : E.take n.toNat = E.take k := by
        rw [List.take_of_length_le (by rw [HEL.out]; omega), List.take_of_length_le (by rw [HEL.out]; omega)]
      have E1 := Lib.hid e1
      obtain ⟨B, c', e2, e3, ht⟩ := els_own hown
      have E2 := Lib.hid e2; have E3 := Lib.hid e3
      clear hx e1 e2 e3 e
      go_wp2_with fail
      go_ret
      exact ⟨B, c', by rw [← HMM.out, E1.out]; exact congrArg Ending.returned E2.out, by rw [← HMM.out, E1.out]; exact ht, hkr⟩
theorem ents_view (N : List Mm.Nd) : Mm.ents (Mm.view N) = N.map Mm.Nd.e := by simp [Mm.ents, Mm.view, Mm.Nd.v]
theorem mall_any {w : World} {p : Nat} {F : Nat → Prop} {T : List Mm.Tv} (h : Tab w p F T) :
    Calls Try.prog 38 #[.pointer (some ⟨p, 0, none⟩)] w fun e w' => ∃ B c, e = .returned (.slice B T.length c) ∧ Elr w.heap.size w' B c (Mm.ents T) ∧ Kept w w' := by
  obtain ⟨N, g, h1, rfl, _⟩ := h
  have hf := h1.few
  have hc := fun W (K : Kept w W) => mentries_any (h1.kept K) (P := []) (R := N) rfl (N.length : Nat) (by omega) (by omega)
  have hg := h1.next (j := 0) (by omega) (u := []) (v := N) (by rw [fl_low (low_of h1.good)]; rfl)
  have c1 := h1.mem.link List.mem_cons_self (j := 0) (by omega)
  rw [show g p 0 = N[0]?.map Mm.Nd.b by rw [← List.head?_eq_getElem?]; exact hg] at c1
  have c2 := mcell h1.mem.tab 13 rfl
  have hp := h1.mem.lt List.mem_cons_self
  rw [ents_view, show (Mm.view N).length = N.length by simp [Mm.view]]
  have e1 : (N.map Mm.Nd.e).take ((N.length : Int)).toNat = N.map Mm.Nd.e := List.take_of_length_le (by simp)
  rw [e1] at hc
  have hel : (N.map Mm.Nd.e).length = N.length := by simp
  rw [hel] at hc
  generalize N.map Mm.Nd.e = E at *
  generalize pv (N[0]?.map Mm.Nd.b) = V at *
  generalize N.length = L at *
  clear h1 hg e1 hel
  go_enter Try.func38, Try.ntmps38
  go_wp2_with fail
  go_region_with (go_at_call 64; refine (hc _ (by first | exact Kept.refl _ | exact kept_drewN _ 1)).mono ?_; rintro e w1 ⟨B, c, rfl, ht, g1⟩)
  all_goals
    go_wp2_with fail
    go_ret
    exact ⟨B, c, rfl, ht, kept_trans (by first | exact Kept.refl _ | exact kept_drewN _ 1) g1⟩
theorem mfrom_any {w : World} {p : Nat} {F : Nat → Prop} {T : List Mm.Tv} (h : Tab w p F T) (k : List UInt8) (n : Int) (h1 : -9223372036854775808 ≤ n) (h2 : n ≤ 9223372036854775807) :
    Calls Try.prog 39 #[.pointer (some ⟨p, 0, none⟩), .string (bs k), .int .i64 n] w fun e w' => ∃ B c, e = .returned (.slice B ((Mm.ents (Mm.Z T k 1099511627776)).take n.toNat).length c) ∧ Elr w.heap.size w' B c ((Mm.ents (Mm.Z T k 1099511627776)).take n.toNat) ∧ Kept w w' := by
  obtain ⟨N, g, h0, rfl, _⟩ := h
  have hf := mfirst_any h0 k 1099511627776
  have hc := fun W (K : Kept w W) => mentries_any (h0.kept K) (P := Mm.nA N k 1099511627776) (R := Mm.nZ N k 1099511627776) (Mm.nAZ N k _).symm n h1 h2
  rw [← List.head?_eq_getElem?] at hc
  rw [← ents_view, Mm.view_Z] at hc
  generalize (Mm.ents (Mm.Z (Mm.view N) k 1099511627776)).take n.toNat = M at *
  generalize pv ((Mm.nZ N k 1099511627776).head?.map Mm.Nd.b) = V at *
  clear h0
  go_enter Try.func39, Try.ntmps39
  go_wp2_with fail
  refine hf.mono ?_
  rintro e w1 ⟨rfl, g1⟩
  go_wp2_with fail
  refine (hc _ g1).mono ?_
  rintro e w2 ⟨B, c, rfl, ht, g2⟩
  go_wp2_with fail
  go_ret
  exact ⟨B, c, rfl, ht.mono (Below.size g1), kept_trans g1 g2⟩
/-- heights as cells -/
def hlc (l : List Nat) : List Value := l.map fun h => .int .i64 (h : Nat)
/-- a list of heights in memory -/
def Hls (w : World) (A : Option Addr) (l : List Nat) : Prop := ∀ (j : Nat) (x : Nat), l[j]? = some x → ∃ b o, A = some ⟨b, o, none⟩ ∧ b < w.heap.size ∧ w.cell? ⟨b, o + j, none⟩ = some (.int .i64 (x : Nat))
theorem Hls.kept {w w' : World} {A : Option Addr} {l : List Nat} (h : Hls w A l) (k : Kept w w') : Hls w' A l := fun j x hx => by
  obtain ⟨b, o, e, hb, h0⟩ := h j x hx
  exact ⟨b, o, e, Nat.lt_of_lt_of_le hb (Below.size k), by rw [kept_cell k hb]; exact h0⟩
theorem hls_own {w : World} {base n : Nat} {v : Value} {l : List Nat} (h : w.ownsRow base 3 1 v n (hlc l)) : ∃ A c, v = .slice A l.length c ∧ n = l.length ∧ Hls w A l := by
  have hl : l.length = n := by have := h.1; simp [hlc] at this; omega
  rcases h.2 with ⟨e, e0⟩ | ⟨r, cap, cur, e, hbs, hb, hnc, _, _, htk⟩
  · have : l = [] := List.eq_nil_of_length_eq_zero (by omega)
    subst this
    exact ⟨none, 0, e, by omega, fun j x hx => by simp at hx⟩
  · refine ⟨some ⟨r, 0, none⟩, cap, by rw [hl]; exact e, hl.symm, fun j x hx => ?_⟩
    have hj := (List.getElem?_eq_some_iff.1 hx).1
    refine ⟨r, 0, rfl, (Array.getElem?_eq_some_iff.1 hb).1, ?_⟩
    have hu : (hlc l)[j]? = some (.int .i64 (x : Nat)) := by unfold hlc; rw [List.getElem?_map, hx]; rfl
    rw [← htk, List.getElem?_take, if_pos (by omega)] at hu
    rw [Nat.zero_add]
    exact mcell hb j (by simpa using hu)
theorem mintInfo : (Try.prog.info? 3).map (fun i => (i.zero, i.size, i.bytes)) = some (some (.int .i64 0), 1, 8) := by kernel_rfl
theorem mcells_new1 (w : World) (x : Value) (t : TypeId) (bl : Nat) (hb : bl = w.heap.size) : ∀ j u, [x][j]? = some u → (w.alloc (.cells #[x] t)).cell? ((⟨bl, 0, none⟩ : Addr).add j) = some u := by
  subst hb
  intro j u hj
  rw [maddr_add]
  exact mcell (malloc_new w _) j (by simpa using hj)
theorem take_h {E : List Nat} {k : Nat} {x : Nat} (h : E[k]? = some x) : hlc (E.take (k + 1)) = hlc (E.take k) ++ [.int .i64 (x : Nat)] := by
  rw [List.take_add_one, h]
  simp [hlc]
theorem mtowers_any {w : World} {p : Nat} {F : Nat → Prop} {T : List Mm.Tv} (h : Tab w p F T) :
    Calls Try.prog 36 #[.pointer (some ⟨p, 0, none⟩)] w fun e w' => ∃ B c, e = .returned (.slice B T.length c) ∧ Hls w' B (Mm.hts T) ∧ Kept w w' := by
  obtain ⟨R, g, h0, rfl, _⟩ := h
  obtain ⟨i0, hi, hz0, hz1, hz2⟩ := info_parts mintInfo
  have HI := Lib.hid hi; have HZ0 := Lib.hid hz0; have HZ1 := Lib.hid hz1; have HZ2 := Lib.hid hz2
  have hR := h0.few
  have HT := Lib.hid h0
  have HL := Lib.hid (fun k y (hy : R[k]? = some y) => h0.low (P := []) rfl hy)
  have HE := Lib.hid (fun k y (hy : R[k]? = some y) => take_h (E := R.map Mm.Nd.h) (k := k) (x := y.h) (by rw [List.getElem?_map, hy]; rfl))
  have HEL := Lib.hid (show (R.map Mm.Nd.h).length = R.length by simp)
  have hg := h0.next (j := 0) (by omega) (u := []) (v := R) (by rw [fl_low (low_of h0.good)]; rfl)
  have c1 := h0.mem.link List.mem_cons_self (j := 0) (by omega)
  rw [show g p 0 = R[0]?.map Mm.Nd.b by rw [← List.head?_eq_getElem?]; exact hg] at c1
  rw [← hs_view, show (Mm.view R).length = R.length by simp [Mm.view], show Mm.hs R = R.map Mm.Nd.h from rfl]
  generalize R.map Mm.Nd.h = E at *
  clear hi hz0 hz1 hz2 h0 hg
  go_enter Try.func36, Try.ntmps36
  go_wp2_with fail
  go_loopw [3, 4] (fun v x wr => ∃ k : Nat, k ≤ R.length ∧ x = pv ((R[k]?).map Mm.Nd.b) ∧ wr.ownsRow w.heap.size 3 1 v k (hlc (E.take k)) ∧ Kept w wr) (fun v _ _ => R.length - slen v)
  case atStart => exact ⟨0, Nat.zero_le _, rfl, World.ownsRow_nil _ _ _ _, Kept.refl _⟩
  case round =>
    obtain ⟨k, hk, rfl, hown, hkr⟩ := hrel
    have hbase : w.heap.size ≤ wr.heap.size := Below.size hkr
    obtain ⟨A, c, rfl⟩ := own_slice hown
    by_cases hlt : k < R.length
    · obtain ⟨y, hy⟩ : ∃ y, R[k]? = some y := ⟨_, List.getElem?_eq_getElem hlt⟩
      rw [hy, show pv (Option.map Mm.Nd.b (some y)) = .pointer (some ⟨y.b, 0, none⟩) from rfl]
      have hm : y ∈ R := List.mem_of_getElem? hy
      obtain ⟨b0, b1, b2, b3, b4⟩ := (HT.out.mem.kept hkr).ent hm
      have b5 := HT.out.mem.link (List.mem_cons_of_mem p (List.mem_map.2 ⟨y, hm, rfl⟩)) (j := 0) (by omega)
      rw [HL.out k y hy] at b5
      have B5 := Lib.hid b5
      have HST := Lib.hid (HE.out k y hy)
      have hyb := HT.out.mem.lt (List.mem_cons_of_mem p (List.mem_map.2 ⟨y, hm, rfl⟩))
      clear hy b5 hm
      go_wp2_with (at_builtin; refine wpList_append_own _ rfl _ _ 32 rfl w.heap.size 3 i0 (.int .i64 0) 1 8 Try.underlying32 HI.out HZ0.out HZ1.out HZ2.out rfl (by decide) _ k (hlc (E.take k)) rfl (hown.alloc _) ⟨wr.heap.size, 0, none⟩ 1 1 [.int .i64 (y.h : Nat)] rfl rfl (mcells_new1 _ _ _ _ rfl) (by simp [Value.oneCell']) (by unfold maxLen; omega) (by omega) (by simp; omega) ?_)
      intro v' w2 hown2 hg _
      have g2 : Kept w w2 := Below.grown (hkr.alloc _) hg (by simp; omega) (fun b hb => (hown.lt b hb).1)
      rw [← HST.out] at hown2
      have b6 := (kept_cell g2 (p := ⟨y.b, 5 + 0, none⟩) hyb).trans B5.out
      obtain ⟨A2, c2, rfl⟩ := own_slice hown2
      clear b0 b1 b2 b3 b4 hown hg
      go_wp2_with fail
      go_roundw
      case rel => exact ⟨k + 1, by omega, rfl, hown2, g2⟩
      case measure => simp [slen]; omega
    · have e : k = R.length := by omega
      have hx : R[k]? = none := by rw [List.getElem?_eq_none_iff]; omega
      rw [hx, show pv (Option.map Mm.Nd.b none) = .pointer none from rfl]
      have e1 : E.take k = E := List.take_of_length_le (by rw [HEL.out]; omega)
      rw [e1] at hown
      obtain ⟨B, c', e2, e3, ht⟩ := hls_own hown
      rw [HEL.out] at e2
      have E2 := Lib.hid e2; have E3 := Lib.hid e3
      clear hx e1 e2 e3 e
      go_wp2_with fail
      go_ret
      exact ⟨B, c', congrArg Ending.returned E2.out, ht, hkr⟩
end Go.Proofs.Ytpbhbgoaaephgaa
