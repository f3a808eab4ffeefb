/-
  A heap of rests in memory: swap, best.
-/
import Derived.Test.YtpbhbgoaaephgaaMergeRest
namespace Go.Proofs.Ytpbhbgoaaephgaa
open Go.ChangeShapes Go.WideShapes Go.ChangeAt Go.RowKit
set_option linter.unusedVariables false
set_option maxRecDepth 100000
set_option maxHeartbeats 1000000

/-- rests as cells -/
def rsc : List Rs → List Value
  | [] => []
  | r :: R => .slice r.A r.l.length r.c :: .int .i64 (r.p : Nat) :: rsc R
theorem rsc_len : ∀ (R : List Rs), (rsc R).length = R.length * 2
  | [] => rfl
  | r :: R => by simp only [rsc, List.length_cons, rsc_len R]; omega
theorem rsc_app : ∀ (R S : List Rs), rsc (R ++ S) = rsc R ++ rsc S
  | [], S => rfl
  | r :: R, S => by simp only [List.cons_append, rsc, rsc_app R S]
theorem rsc_get : ∀ {R : List Rs} {j : Nat} {x : Rs}, R[j]? = some x → (rsc R)[j * 2]? = some (.slice x.A x.l.length x.c) ∧ (rsc R)[j * 2 + 1]? = some (.int .i64 (x.p : Nat))
  | [], j, x, h => by simp at h
  | y :: R, 0, x, h => by simp at h; subst h; exact ⟨rfl, rfl⟩
  | y :: R, j + 1, x, h => by
    have := rsc_get (R := R) (j := j) (x := x) (by simpa using h)
    rw [show (j + 1) * 2 = j * 2 + 1 + 1 by omega]
    exact this
theorem rsc_set : ∀ {R : List Rs} {j : Nat} (x : Rs), ((rsc R).set (j * 2) (.slice x.A x.l.length x.c)).set (j * 2 + 1) (.int .i64 (x.p : Nat)) = rsc (R.set j x)
  | [], j, x => by simp [rsc]
  | y :: R, 0, x => by simp [rsc]
  | y :: R, j + 1, x => by
    rw [show (j + 1) * 2 = j * 2 + 1 + 1 by omega]
    simp only [rsc, List.set_cons_succ]
    rw [rsc_set x]
theorem own_put {w : World} {B g n c size : Nat} {e : TypeId} {xs : List Value} (h : w.ownsRow B e size (.slice (some ⟨g, 0, none⟩) n c) n xs) {k : Nat} (hk : k < n * size) (u : Value) : (w.setCell ⟨g, k, none⟩ u).ownsRow B e size (.slice (some ⟨g, 0, none⟩) n c) n (xs.set k u) := by
  obtain ⟨h1, h2⟩ := h
  refine ⟨by rw [List.length_set]; exact h1, ?_⟩
  rcases h2 with ⟨e, _⟩ | ⟨g', cap, cur, hv, hg, hh, hn, hcap, hsz, htk⟩
  · cases e
  · cases hv
    refine .inr ⟨g, c, cur.setIfInBounds k u, rfl, hg, mheap_set hh, hn, hcap, by simp [hsz], ?_⟩
    rw [← htk]
    simp [List.take_set]
theorem own_frozen {w : World} {B g n c size : Nat} {e : TypeId} {xs : List Value} (h : w.ownsRow B e size (.slice (some ⟨g, 0, none⟩) n c) n xs) (k : Nat) : w.frozen? ⟨g, k, none⟩ = false := by
  rcases h.2 with ⟨e, _⟩ | ⟨g', cap, cur, hv, hg, hh, _⟩
  · cases e
  · cases hv; exact mfrozen hh k
theorem own_cell {w : World} {B g n c size : Nat} {e : TypeId} {xs : List Value} (h : w.ownsRow B e size (.slice (some ⟨g, 0, none⟩) n c) n xs) {k : Nat} {u : Value} (hu : xs[k]? = some u) : w.cell? ⟨g, k, none⟩ = some u := by
  have := h.cells (g := g) rfl k u hu
  rwa [maddr_add] at this
theorem rown_kept {w w' : World} {base : Nat} {e : TypeId} {size : Nat} {v : Value} {n : Nat} {xs : List Value} (h : w.ownsRow base e size v n xs) (k : Kept w w') : w'.ownsRow base e size v n xs := by
  refine ⟨h.1, ?_⟩
  rcases h.2 with h0 | ⟨g, cap, cur, hv, hb, hh, hr⟩
  · exact .inl h0
  · exact .inr ⟨g, cap, cur, hv, hb, (Below.block k g (Array.getElem?_eq_some_iff.1 hh).1).trans hh, hr⟩
def hpObj (V : Value) : Obj := .cells #[.func (.func 65) #[] #[], V] 92
/-- a heap's block and its row; the row lies at n0 or behind -/
structure Hq (w : World) (n0 h : Nat) (V : Value) (R : List Rs) : Prop where
  blk : w.heap[h]? = some (hpObj V)
  own : w.ownsRow n0 95 2 V R.length (rsc R)
  each : ∀ r ∈ R, r.ok w
  low : ∀ r ∈ R, ∀ b o, r.A = some ⟨b, o, none⟩ → b < n0
  few : R.length ≤ 4000
theorem Hq.apart {w : World} {n0 h : Nat} {V : Value} {R : List Rs} (H : Hq w n0 h V R) : V.ownBlock ≠ some h := by
  intro e
  rcases H.own.2 with ⟨e1, _⟩ | ⟨g, cap, cur, hv, hg, hh, _⟩
  · rw [e1] at e; cases e
  · rw [hv] at e
    cases e
    have := hh.symm.trans H.blk
    unfold hpObj at this
    injection this with this
    injection this with _ this _
    exact absurd this (by decide)
theorem sw_in {l : List Rs} {i j : Nat} {r : Rs} (h : r ∈ Hp.sw l i j) : r ∈ l := (Hp.sw_perm l i j).mem_iff.1 h
theorem Els.low {w w' : World} {A : Option Addr} {l : List Mm.Ent} {B : Nat} (h : Els w A l) (hA : ∀ b o, A = some ⟨b, o, none⟩ → b < B) (k : Below B w w') (hB : B ≤ w.heap.size) : Els w' A l := fun j x hx => by
  obtain ⟨b, o, e, hb, h0, h1, h2, h3⟩ := h j x hx
  have hlt := hA b o e
  exact ⟨b, o, e, Nat.lt_of_lt_of_le hb (Below.size k), by rw [Below.cell k (by exact hlt)]; exact h0, by rw [Below.cell k (by exact hlt)]; exact h1, by rw [Below.cell k (by exact hlt)]; exact h2, by rw [Below.cell k (by exact hlt)]; exact h3⟩
theorem Rs.ok.low {w w' : World} {r : Rs} {B : Nat} (h : r.ok w) (hA : ∀ b o, r.A = some ⟨b, o, none⟩ → b < B) (k : Below B w w') (hB : B ≤ w.heap.size) : r.ok w' := ⟨h.els.low hA k hB, h.pos, h.few, h.cap, h.most, h.place⟩
theorem Hq.form {w : World} {n0 h : Nat} {V : Value} {R : List Rs} (H : Hq w n0 h V R) (hp : 0 < R.length) : ∃ g c, V = .slice (some ⟨g, 0, none⟩) R.length c ∧ n0 ≤ g ∧ g < w.heap.size ∧ g ≠ h := by
  have ha := H.apart
  rcases H.own.2 with ⟨_, e⟩ | ⟨g, cap, cur, hv, hg, hh, _⟩
  · omega
  · refine ⟨g, cap, hv, hg, mheap_lt hh, fun e => ha ?_⟩
    rw [hv, e]; rfl
theorem Hq.kept {w w' : World} {n0 h : Nat} {V : Value} {R : List Rs} (H : Hq w n0 h V R) (k : Kept w w') : Hq w' n0 h V R :=
  ⟨(Below.block k h (mheap_lt H.blk)).trans H.blk, rown_kept H.own k, fun r hr => (H.each r hr).kept k, H.low, H.few⟩
theorem Hq.sw {w : World} {n0 h g c i j : Nat} {R : List Rs} (H : Hq w n0 h (.slice (some ⟨g, 0, none⟩) R.length c) R) (hn : n0 ≤ w.heap.size) (hg : n0 ≤ g) {x y : Rs} (hx : R[i]? = some x) (hy : R[j]? = some y) :
    Hq ((((w.setCell ⟨g, i * 2, none⟩ (.slice y.A y.l.length y.c)).setCell ⟨g, i * 2 + 1, none⟩ (.int .i64 (y.p : Nat))).setCell ⟨g, j * 2, none⟩ (.slice x.A x.l.length x.c)).setCell ⟨g, j * 2 + 1, none⟩ (.int .i64 (x.p : Nat))).drew n0 h (.slice (some ⟨g, 0, none⟩) R.length c) (Hp.sw R i j) ∧
      Ex (fun b => b = g) w ((((w.setCell ⟨g, i * 2, none⟩ (.slice y.A y.l.length y.c)).setCell ⟨g, i * 2 + 1, none⟩ (.int .i64 (y.p : Nat))).setCell ⟨g, j * 2, none⟩ (.slice x.A x.l.length x.c)).setCell ⟨g, j * 2 + 1, none⟩ (.int .i64 (x.p : Nat))).drew := by
  have hi := (List.getElem?_eq_some_iff.1 hx).1
  have hj := (List.getElem?_eq_some_iff.1 hy).1
  have hgh : h ≠ g := fun e => H.apart (by rw [e]; rfl)
  have E := (ex_set (o := j * 2 + 1) (v := .int .i64 (x.p : Nat)) (ex_set (o := j * 2) (v := .slice x.A x.l.length x.c) (ex_set (o := i * 2 + 1) (v := .int .i64 (y.p : Nat)) (ex_set (o := i * 2) (v := .slice y.A y.l.length y.c) (Ex.refl (fun b => b = g) w) (b := g) (fun _ => rfl)) (b := g) (fun _ => rfl)) (b := g) (fun _ => rfl)) (b := g) (fun _ => rfl)).drew
  have O := own_put (own_put (own_put (own_put H.own (k := i * 2) (by omega) (.slice y.A y.l.length y.c)) (k := i * 2 + 1) (by omega) (.int .i64 (y.p : Nat))) (k := j * 2) (by omega) (.slice x.A x.l.length x.c)) (k := j * 2 + 1) (by omega) (.int .i64 (x.p : Nat))
  rw [rsc_set y, rsc_set x, ← Hp.sw_of hx hy] at O
  refine ⟨⟨(E.block h (mheap_lt H.blk) hgh).trans H.blk, ?_, fun r hr => ?_, fun r hr => H.low r (sw_in hr), by rw [Hp.sw_len]; exact H.few⟩, E⟩
  · rw [Hp.sw_len]; exact O
  · exact (H.each r (sw_in hr)).low (H.low r (sw_in hr)) (E.below hn (fun i e => by rw [e]; exact hg)) hn
theorem gswap_any {w : World} {n0 h i j : Nat} {V : Value} {R : List Rs} (H : Hq w n0 h V R) (hn0 : n0 ≤ w.heap.size) (hi : i < R.length) (hj : j < R.length) :
    Calls Try.prog 76 #[.pointer (some ⟨h, 0, none⟩), .int .i64 (i : Nat), .int .i64 (j : Nat)] w fun e w' => (∃ v, e = .returned v) ∧ Hq w' n0 h V (Hp.sw R i j) ∧ Ex (fun b => V.ownBlock = some b) w w' := by
  obtain ⟨g, c, rfl, hg, hgs, hgh⟩ := H.form (by omega)
  have hx : R[i]? = some R[i] := List.getElem?_eq_getElem hi
  have hy : R[j]? = some R[j] := List.getElem?_eq_getElem hj
  generalize R[i] = x at hx
  generalize R[j] = y at hy
  have HS := Lib.hid (H.sw hn0 hg hx hy)
  have c1 := mcell (v := .slice (some ⟨g, 0, none⟩) R.length c) H.blk 1 rfl
  obtain ⟨x1, x2⟩ := rsc_get hx
  obtain ⟨y1, y2⟩ := rsc_get hy
  have hO := H.own
  have p1 := own_cell hO x1; have p2 := own_cell hO x2; have q1 := own_cell hO y1; have q2 := own_cell hO y2
  have f1 := own_frozen hO (i * 2); have f2 := own_frozen hO (i * 2 + 1); have f3 := own_frozen hO (j * 2); have f4 := own_frozen hO (j * 2 + 1)
  have hf := H.few
  clear H hO x1 x2 y1 y2
  generalize hn : R.length = n at *
  by_cases hij : i = j
  · subst hij
    have hxy : x = y := by rw [hx] at hy; exact Option.some.inj hy
    subst hxy
    clear hx hy hn
    go_enter Try.func76, Try.ntmps76
    go_wp2_with fail
    go_region
    go_wp2_with fail
    go_end0
    exact ⟨⟨_, rfl⟩, HS.out.1, HS.out.2.mono fun b e => by rw [e]; rfl⟩
  · have d1 : ¬ i * 2 = j * 2 := by omega
    have d2 : ¬ j * 2 = i * 2 := by omega
    have d3 : ¬ i * 2 + 1 = j * 2 + 1 := by omega
    have d4 : ¬ j * 2 + 1 = i * 2 + 1 := by omega
    clear hx hy hn
    go_enter Try.func76, Try.ntmps76
    go_wp2_with fail
    go_region
    go_wp2_with fail
    go_end0
    exact ⟨⟨_, rfl⟩, HS.out.1, HS.out.2.mono fun b e => by rw [e]; rfl⟩
/-- the place that is ahead, of a place and the two below it -/
def Bst (R : List Rs) (i b : Nat) : Prop := (b = i ∨ b = 2 * i + 1 ∨ b = 2 * i + 2) ∧ (b ≠ i → b < R.length) ∧ ∀ c u y, (c = i ∨ c = 2 * i + 1 ∨ c = 2 * i + 2) → R[c]? = some u → R[b]? = some y → rsn u y = false
theorem rsn_asym {x y : Rs} (h : rsn x y = true) : rsn y x = false := Mg.sn_asymm h
theorem rsn_nt {x y z : Rs} (h : rsn y x = false) (k : rsn z y = false) : rsn z x = false := Mg.sn_ntrans h k
theorem rsn_irr (x : Rs) : rsn x x = false := by
  cases h : rsn x x with
  | false => rfl
  | true => exact absurd h (by rw [rsn_asym h]; decide)
/-- the place that is ahead so far -/
def Bsf (R : List Rs) (i c b : Nat) : Prop := (b = i ∨ (2 * i + 1 ≤ b ∧ b < c ∧ b < R.length)) ∧ ∀ d u y, (d = i ∨ (2 * i + 1 ≤ d ∧ d < c)) → R[d]? = some u → R[b]? = some y → rsn u y = false
theorem Bsf.start (R : List Rs) (i : Nat) : Bsf R i (2 * i + 1) i := ⟨.inl rfl, fun d u y hd hu hy => by
  have : d = i := by omega
  subst this
  rw [hu] at hy; cases hy; exact rsn_irr _⟩
theorem Bsf.yes {R : List Rs} {i c b : Nat} (h : Bsf R i c b) (hc : 2 * i + 1 ≤ c) {u y : Rs} (hu : R[c]? = some u) (hy : R[b]? = some y) (hs : rsn u y = true) : Bsf R i (c + 1) c := ⟨.inr ⟨hc, by omega, (List.getElem?_eq_some_iff.1 hu).1⟩, fun d v z hd hv hz => by
  rw [hu] at hz; cases hz
  by_cases e : d = c
  · subst e; rw [hu] at hv; cases hv; exact rsn_irr _
  · exact rsn_nt (rsn_asym hs) (h.2 d v y (by omega) hv hy)⟩
theorem Bsf.no {R : List Rs} {i c b : Nat} (h : Bsf R i c b) {u y : Rs} (hu : R[c]? = some u) (hy : R[b]? = some y) (hs : rsn u y = false) : Bsf R i (c + 1) b := ⟨by have := h.1; omega, fun d v z hd hv hz => by
  by_cases e : d = c
  · subst e; rw [hu] at hv; rw [hy] at hz; cases hv; cases hz; exact hs
  · exact h.2 d v z (by omega) hv hz⟩
theorem Bsf.stop {R : List Rs} {i c b : Nat} (h : Bsf R i c b) (hc : 2 * i + 2 < c ∨ R.length ≤ c) (hc2 : c ≤ 2 * i + 3) : Bst R i b := by
  refine ⟨by have := h.1; omega, by have := h.1; omega, fun d u y hd hu hy => h.2 d u y ?_ hu hy⟩
  have := (List.getElem?_eq_some_iff.1 hu).1
  omega
theorem hcs_kept {w w' : World} {h g c b : Nat} {u0 u1 u2 u3 u4 u5 : Value} (H : w.cell? ⟨h, 0, none⟩ = some u0 ∧ w.cell? ⟨h, 1, none⟩ = some u1 ∧ w.cell? ⟨g, c * 2, none⟩ = some u2 ∧ w.cell? ⟨g, c * 2 + 1, none⟩ = some u3 ∧ w.cell? ⟨g, b * 2, none⟩ = some u4 ∧ w.cell? ⟨g, b * 2 + 1, none⟩ = some u5) (hh : h < w.heap.size) (hg : g < w.heap.size) (k : Kept w w') :
    w'.cell? ⟨h, 0, none⟩ = some u0 ∧ w'.cell? ⟨h, 1, none⟩ = some u1 ∧ w'.cell? ⟨g, c * 2, none⟩ = some u2 ∧ w'.cell? ⟨g, c * 2 + 1, none⟩ = some u3 ∧ w'.cell? ⟨g, b * 2, none⟩ = some u4 ∧ w'.cell? ⟨g, b * 2 + 1, none⟩ = some u5 := by
  rw [kept_cell k hh, kept_cell k hh, kept_cell k hg, kept_cell k hg, kept_cell k hg, kept_cell k hg]; exact H
theorem gbest_any {w : World} {n0 h i : Nat} {V : Value} {R : List Rs} (H : Hq w n0 h V R) (hi : i < R.length ∨ (i = 0 ∧ R = [])) :
    Calls Try.prog 77 #[.pointer (some ⟨h, 0, none⟩), .int .i64 (i : Nat)] w fun e w' => ∃ b : Nat, e = .returned (.int .i64 (b : Nat)) ∧ Bst R i b ∧ Kept w w' := by
  have hf := H.few
  have hi4 : i ≤ 4000 := by rcases hi with hi | ⟨hi, _⟩ <;> omega
  have HH := Lib.hid H
  have HI := Lib.hid hi
  obtain ⟨A, cV, rfl⟩ := own_slice H.own
  clear H hi
  go_enter Try.func77, Try.ntmps77
  go_wp2_with fail
  go_loopw [5, 6] (fun x y wr => ∃ b c : Nat, 2 * i + 1 ≤ c ∧ c ≤ 2 * i + 3 ∧ b ≤ 2 * i + 3 ∧ x = .int .i64 (b : Nat) ∧ y = .int .i64 (c : Nat) ∧ Hid (Bsf R i c b) ∧ Kept w wr) (fun _ y _ => 2 * i + 3 - (intOf y).toNat)
  case atStart => exact ⟨i, 2 * i + 1, by omega, by omega, by omega, rfl, by go_num, Lib.hid (Bsf.start R i), Kept.refl _⟩
  case round =>
    obtain ⟨b, c, hc1, hc2, hb2, rfl, rfl, HB, kr⟩ := hrel
    have HR := HH.out.kept kr
    have c0 := mcell (v := .func (.func 65) #[] #[]) HR.blk 0 rfl
    have c1 := mcell (v := .slice A R.length cV) HR.blk 1 rfl
    by_cases h1 : c ≤ 2 * i + 2
    · have d1 : decide ((c : Int) ≤ 2 * (i : Int) + 2) = true := decide_eq_true (by omega)
      by_cases h2 : c < R.length
      · have d2 : decide ((c : Int) < (R.length : Int)) = true := decide_eq_true (by omega)
        have hbl : b < R.length := by have := HB.out.1; have := HI.out; omega
        obtain ⟨g, cc, e, hg, hgs, hgh⟩ := HR.form (by omega)
        cases e
        have hx : R[c]? = some R[c] := List.getElem?_eq_getElem h2
        have hy : R[b]? = some R[b] := List.getElem?_eq_getElem hbl
        generalize R[c] = x at hx
        generalize R[b] = y at hy
        obtain ⟨x1, x2⟩ := rsc_get hx
        obtain ⟨y1, y2⟩ := rsc_get hy
        have p1 := own_cell HR.own x1; have p2 := own_cell HR.own x2; have q1 := own_cell HR.own y1; have q2 := own_cell HR.own y2
        have hs := gsooner_any x y wr.drew ((HR.each x (List.mem_of_getElem? hx)).kept (kept_drewN wr 1)) ((HR.each y (List.mem_of_getElem? hy)).kept (kept_drewN wr 1))
        unfold rsV at hs
        have HBY := Lib.hid (fun h => HB.out.yes hc1 hx hy h)
        have HBN := Lib.hid (fun h => HB.out.no hx hy h)
        have HCS := Lib.hid (And.intro c0 (And.intro c1 (And.intro p1 (And.intro p2 (And.intro q1 q2)))))
        have HLT := Lib.hid (And.intro (mheap_lt HR.blk) hgs)
        clear x1 x2 y1 y2 hx hy HR
        generalize R.length = n at *
        cases hv : rsn x y with
        | true =>
          have HN := Lib.hid (HBY.out hv)
          rw [hv] at hs
          have HS := Lib.hid hs
          clear hv hs HBY HBN
          go_wp2_with fail
          go_region_held3 (fun w' => w'.cell? ⟨h, 0, none⟩ = some (.func (.func 65) #[] #[]) ∧ w'.cell? ⟨h, 1, none⟩ = some (.slice (some ⟨g, 0, none⟩) n cV) ∧ w'.cell? ⟨g, c * 2, none⟩ = some (.slice x.A x.l.length x.c) ∧ w'.cell? ⟨g, c * 2 + 1, none⟩ = some (.int .i64 (x.p : Nat)) ∧ w'.cell? ⟨g, b * 2, none⟩ = some (.slice y.A y.l.length y.c) ∧ w'.cell? ⟨g, b * 2 + 1, none⟩ = some (.int .i64 (y.p : Nat)))
            (first | exact HCS.out | exact hcs_kept HCS.out HLT.out.1 HLT.out.2 (kept_drewN _ 1) | exact hcs_kept HCS.out HLT.out.1 HLT.out.2 (kept_trans (kept_drewN wr 1) g1))
            ((go_at_call 65; refine HS.out.mono ?_; rintro e w1 ⟨rfl, g1⟩))
          have G1 := Lib.hid (kept_trans kr (kept_trans (kept_drewN wr 1) g1))
          clear g1 c0 c1 p1 p2 q1 q2
          go_wp2_with fail
          go_roundw
          case rel => exact ⟨c, c + 1, by omega, by omega, by omega, rfl, by go_num, HN, G1.out⟩
          case measure => simp [intOf]; omega
        | false =>
          have HN := Lib.hid (HBN.out hv)
          rw [hv] at hs
          have HS := Lib.hid hs
          clear hv hs HBY HBN
          go_wp2_with fail
          go_region_held3 (fun w' => w'.cell? ⟨h, 0, none⟩ = some (.func (.func 65) #[] #[]) ∧ w'.cell? ⟨h, 1, none⟩ = some (.slice (some ⟨g, 0, none⟩) n cV) ∧ w'.cell? ⟨g, c * 2, none⟩ = some (.slice x.A x.l.length x.c) ∧ w'.cell? ⟨g, c * 2 + 1, none⟩ = some (.int .i64 (x.p : Nat)) ∧ w'.cell? ⟨g, b * 2, none⟩ = some (.slice y.A y.l.length y.c) ∧ w'.cell? ⟨g, b * 2 + 1, none⟩ = some (.int .i64 (y.p : Nat)))
            (first | exact HCS.out | exact hcs_kept HCS.out HLT.out.1 HLT.out.2 (kept_drewN _ 1) | exact hcs_kept HCS.out HLT.out.1 HLT.out.2 (kept_trans (kept_drewN wr 1) g1))
            ((go_at_call 65; refine HS.out.mono ?_; rintro e w1 ⟨rfl, g1⟩))
          have G1 := Lib.hid (kept_trans kr (kept_trans (kept_drewN wr 1) g1))
          clear g1 c0 c1 p1 p2 q1 q2
          go_wp2_with fail
          go_roundw
          case rel => exact ⟨b, c + 1, by omega, by omega, by omega, rfl, by go_num, HN, G1.out⟩
          case measure => simp [intOf]; omega
      · have d2 : decide ((c : Int) < (R.length : Int)) = false := decide_eq_false (by omega)
        have HE := Lib.hid (HB.out.stop (.inr (by omega)) hc2)
        go_wp2_with fail
        go_ret
        exact ⟨b, rfl, HE.out, kr⟩
    · have d1 : decide ((c : Int) ≤ 2 * (i : Int) + 2) = false := decide_eq_false (by omega)
      have HE := Lib.hid (HB.out.stop (.inl (by omega)) hc2)
      go_wp2_with fail
      go_ret
      exact ⟨b, rfl, HE.out, kr⟩
end Go.Proofs.Ytpbhbgoaaephgaa
