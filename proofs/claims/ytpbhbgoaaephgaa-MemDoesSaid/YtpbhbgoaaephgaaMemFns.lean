/-
  What the functions of package mem tell of a table, whatever it holds: may an entry be, what is got, all entries, those from a key on, towers, how long a search is.
-/
import Derived.Test.YtpbhbgoaaephgaaMemSearch
namespace Go.Proofs.Ytpbhbgoaaephgaa
open Go.ChangeShapes Go.WideShapes Go.ChangeAt Go.RowKit
set_option linter.unusedVariables false
set_option maxRecDepth 100000
set_option maxHeartbeats 1000000

/-- a table in memory that has the entries and heights T; its blocks are among F's -/
def Tab (w : World) (p : Nat) (F : Nat → Prop) (T : List Mm.Tv) : Prop := ∃ N g, IsTab w p N g ∧ Mm.view N = T ∧ ∀ b ∈ p :: Mm.blks N, F b
theorem Tab.good {w : World} {p : Nat} {F : Nat → Prop} {T : List Mm.Tv} (h : Tab w p F T) : Mm.Good T := by
  obtain ⟨N, g, h1, rfl, _⟩ := h; exact h1.good
theorem Tab.few {w : World} {p : Nat} {F : Nat → Prop} {T : List Mm.Tv} (h : Tab w p F T) : T.length ≤ 1000 := by
  obtain ⟨N, g, h1, rfl, _⟩ := h; have := h1.few; simpa [Mm.view] using this
theorem Tab.kept {w w' : World} {p : Nat} {F : Nat → Prop} {T : List Mm.Tv} (h : Tab w p F T) (k : Kept w w') : Tab w' p F T := by
  obtain ⟨N, g, h1, h2, h3⟩ := h; exact ⟨N, g, h1.kept k, h2, h3⟩
theorem Tab.ex {w w' : World} {p : Nat} {F G : Nat → Prop} {T : List Mm.Tv} (h : Tab w p F T) (k : Ex G w w') (hd : ∀ b, F b → ¬ G b) : Tab w' p F T := by
  obtain ⟨N, g, h1, h2, h3⟩ := h
  exact ⟨N, g, h1.same fun b hb => k.block b (h1.mem.lt hb) (hd b (h3 b hb)), h2, h3⟩
theorem Tab.mono {w : World} {p : Nat} {F F' : Nat → Prop} {T : List Mm.Tv} (h : Tab w p F T) (k : ∀ b, b < w.heap.size → F b → F' b) : Tab w p F' T := by
  obtain ⟨N, g, h1, h2, h3⟩ := h; exact ⟨N, g, h1, h2, fun b hb => k b (h1.mem.lt hb) (h3 b hb)⟩
theorem hs_view (N : List Mm.Nd) : Mm.hs N = Mm.hts (Mm.view N) := by simp [Mm.hs, Mm.hts, Mm.view, Mm.Nd.v]
theorem mval_nil (v : List UInt8) : (bs v).toList.isEmpty = decide (v = []) := by
  rw [Lib.toList_data, bs_data]
  cases v <;> rfl
theorem mmay_no {x : Mm.Ent} (h : ¬ (1 ≤ x.key.length ∧ x.key.length ≤ 100 ∧ x.val.length ≤ 100 ∧ (x.del = true → x.val = []) ∧ 1 ≤ x.seq ∧ x.seq ≤ 1099511627776)) : Mm.may x = false := by
  rw [Bool.eq_false_iff, ne_eq, Mm.may_iff]; exact h
theorem mmay_any (x : Mm.Ent) (hk : x.key.length ≤ maxLen) (hv : x.val.length ≤ maxLen) (w : World) :
    Calls Try.prog 58 #[entV x] w fun e w' => e = .returned (.bool (Mm.may x)) ∧ Kept w w' := by
  obtain ⟨k, s, d, v⟩ := x
  unfold maxLen at hk hv
  have e1 := mbs_size k
  have e2 := mbs_size v
  have hn := mval_nil v
  simp only at hk hv
  unfold entV
  by_cases h1 : k.length < 1
  · rw [mmay_no (fun c => by have := c.1; simp only at this; omega)]
    have d1 : decide (((bs k).size : Int) < 1) = true := by rw [e1]; simp; omega
    clear e1 e2 hn
    go_enter Try.func58, Try.ntmps58
    go_wp2_with fail
    go_ret
    exact ⟨rfl, (Kept.refl _).alloc _⟩
  · have d1 : decide (((bs k).size : Int) < 1) = false := by rw [e1]; simp; omega
    by_cases h2 : 100 < k.length
    · rw [mmay_no (fun c => by have := c.2.1; simp only at this; omega)]
      have d2 : decide ((100 : Int) < ((bs k).size : Int)) = true := by rw [e1]; simp; omega
      clear e1 e2 hn
      go_enter Try.func58, Try.ntmps58
      go_wp2_with fail
      go_ret
      exact ⟨rfl, (Kept.refl _).alloc _⟩
    · have d2 : decide ((100 : Int) < ((bs k).size : Int)) = false := by rw [e1]; simp; omega
      by_cases h3 : 100 < v.length
      · rw [mmay_no (fun c => by have := c.2.2.1; simp only at this; omega)]
        have d3 : decide ((100 : Int) < ((bs v).size : Int)) = true := by rw [e2]; simp; omega
        clear e1 e2 hn
        go_enter Try.func58, Try.ntmps58
        go_wp2_with fail
        go_ret
        exact ⟨rfl, (Kept.refl _).alloc _⟩
      · have d3 : decide ((100 : Int) < ((bs v).size : Int)) = false := by rw [e2]; simp; omega
        by_cases h4 : d = true ∧ v ≠ []
        · rw [mmay_no (fun c => by have := c.2.2.2.1; simp only at this; exact h4.2 (this h4.1))]
          obtain ⟨rfl, hv0⟩ := h4
          rw [decide_eq_false hv0] at hn
          clear e1 e2
          go_enter Try.func58, Try.ntmps58
          go_wp2_with fail
          go_ret
          exact ⟨rfl, (Kept.refl _).alloc _⟩
        · have hr : Mm.may ⟨k, s, d, v⟩ = (decide ((1 : Int) ≤ (s : Int)) && decide ((s : Int) ≤ 1099511627776)) := by
            rw [Bool.eq_iff_iff, Mm.may_iff, Bool.and_eq_true, decide_eq_true_iff, decide_eq_true_iff]
            simp only
            constructor
            · rintro ⟨_, _, _, _, a, b⟩; omega
            · rintro ⟨a, b⟩
              exact ⟨by omega, by omega, by omega, fun hd => Classical.byContradiction fun hv0 => h4 ⟨hd, hv0⟩, by omega, by omega⟩
          rw [hr]
          have h5 : d = false ∨ (d = true ∧ (bs v).toList.isEmpty = true) := by
            cases d with
            | false => exact .inl rfl
            | true => exact .inr ⟨rfl, by rw [hn]; exact decide_eq_true (Classical.byContradiction fun hv0 => h4 ⟨rfl, hv0⟩)⟩
          clear e1 e2 hn hr h4
          by_cases h6 : 1 ≤ s
          · have d6 : decide ((1 : Int) ≤ (s : Int)) = true := by simp; omega
            rw [d6]
            rcases h5 with rfl | ⟨rfl, h5⟩
            · go_enter Try.func58, Try.ntmps58
              go_wp2_with fail
              go_ret
              exact ⟨ret_bool (by simp), (Kept.refl _).alloc _⟩
            · go_enter Try.func58, Try.ntmps58
              go_wp2_with fail
              go_ret
              exact ⟨ret_bool (by simp), (Kept.refl _).alloc _⟩
          · have d6 : decide ((1 : Int) ≤ (s : Int)) = false := by simp; omega
            rw [d6]
            rcases h5 with rfl | ⟨rfl, h5⟩
            · go_enter Try.func58, Try.ntmps58
              go_wp2_with fail
              go_ret
              exact ⟨ret_bool (by simp), (Kept.refl _).alloc _⟩
            · go_enter Try.func58, Try.ntmps58
              go_wp2_with fail
              go_ret
              exact ⟨ret_bool (by simp), (Kept.refl _).alloc _⟩
theorem mnew_any (w : World) : Calls Try.prog 25 #[] w fun e w' => e = .returned (.pointer (some ⟨w.heap.size, 0, none⟩)) ∧ Tab w' w.heap.size (fun b => b = w.heap.size) [] ∧ w'.heap.size = w.heap.size + 1 ∧ Kept w w' := by
  go_enter Try.func25, Try.ntmps25
  go_wp2_with fail
  go_ret
  refine ⟨rfl, ⟨[], fun _ _ => none, ⟨⟨malloc_new w _, by simp⟩, fun j hj => rfl, by simp [Mm.blks], Mm.good_nil, by simp⟩, rfl, by simp [Mm.blks]⟩, malloc_size _ _, (Kept.refl _).alloc _⟩
theorem Tab.ptr {w : World} {p : Nat} {F : Nat → Prop} {T : List Mm.Tv} (h : Tab w p F T) : p < w.heap.size := by
  obtain ⟨N, g, h1, _, _⟩ := h; exact h1.mem.lt List.mem_cons_self
theorem fl_low {N : List Mm.Nd} (h : ∀ x ∈ N, 1 ≤ x.h) : Mm.fl 0 N = N := by
  unfold Mm.fl
  rw [List.filter_eq_self]
  intro x hx
  have := h x hx
  simp; omega
theorem low_of {N : List Mm.Nd} (h : Mm.Good (Mm.view N)) : ∀ x ∈ N, 1 ≤ x.h := fun x hx => h.low x.v (List.mem_map.2 ⟨x, hx, rfl⟩)
theorem nA_sub {N : List Mm.Nd} {k : List UInt8} {s : Nat} {x : Mm.Nd} (h : x ∈ Mm.nA N k s) : x ∈ N := by rw [← Mm.nAZ N k s]; exact List.mem_append.2 (.inl h)
theorem nZ_sub {N : List Mm.Nd} {k : List UInt8} {s : Nat} {x : Mm.Nd} (h : x ∈ Mm.nZ N k s) : x ∈ N := by rw [← Mm.nAZ N k s]; exact List.mem_append.2 (.inr h)
theorem mfirst_any {w : World} {p : Nat} {N : List Mm.Nd} {g : Nat → Nat → Option Nat} (h : IsTab w p N g) (k : List UInt8) (s : Nat) :
    Calls Try.prog 63 #[.pointer (some ⟨p, 0, none⟩), .string (bs k), .int .u64 (s : Nat)] w fun e w' => e = .returned (pv ((Mm.nZ N k s).head?.map Mm.Nd.b)) ∧ Kept w w' := by
  have hc := search_any h k s
  have hl : lastAt p (Mm.nA N k s) 0 ∈ p :: Mm.blks N := lst_in (fun x hx => nA_sub (fl_sub hx))
  have hlt := h.mem.lt hl
  have c1 := h.mem.link hl (j := 0) (by omega)
  have hg : g (lastAt p (Mm.nA N k s) 0) 0 = (Mm.nZ N k s).head?.map Mm.Nd.b := by
    unfold lastAt
    rw [fl_low (fun x hx => low_of h.good x (nA_sub hx))]
    exact h.next (by omega) (by rw [fl_low (low_of h.good), Mm.nAZ])
  rw [hg] at c1
  unfold lasts at hc
  simp only [show ∀ b, pv (some b) = .pointer (some ⟨b, 0, none⟩) from fun _ => rfl] at hc
  generalize lastAt p (Mm.nA N k s) 0 = l0 at *
  clear hg hl h
  go_enter Try.func63, Try.ntmps63
  go_wp2_with fail
  refine hc.mono ?_
  rintro e w1 ⟨rfl, g1⟩
  have c2 := (kept_cell g1 (p := ⟨l0, 5, none⟩) hlt).trans c1
  clear c1
  have hlt1 : l0 < w1.heap.size := Nat.lt_of_lt_of_le hlt (Below.size g1)
  go_wp2_with fail
  go_ret
  exact ⟨rfl, g1.alloc _⟩
theorem msteps_any {w : World} {p : Nat} {F : Nat → Prop} {T : List Mm.Tv} (h : Tab w p F T) (k : List UInt8) (s : Nat) :
    Calls Try.prog 34 #[.pointer (some ⟨p, 0, none⟩), .string (bs k), .int .u64 (s : Nat)] w fun e w' => e = .returned (.int .i64 (Mm.stp 0 (Mm.hts (Mm.A T k s)) : Nat)) ∧ Kept w w' := by
  obtain ⟨N, g, h1, rfl, _⟩ := h
  have hc := search_any h1 k s
  rw [hs_view, Mm.view_A] at hc
  unfold lasts at hc
  simp only [show ∀ b, pv (some b) = .pointer (some ⟨b, 0, none⟩) from fun _ => rfl] at hc
  clear h1
  go_enter Try.func34, Try.ntmps34
  go_wp2_with fail
  refine hc.mono ?_
  rintro e w1 ⟨rfl, g1⟩
  go_wp2_with fail
  go_ret
  exact ⟨rfl, g1.alloc _⟩
theorem mlen_any {w : World} {p : Nat} {F : Nat → Prop} {T : List Mm.Tv} (h : Tab w p F T) :
    Calls Try.prog 31 #[.pointer (some ⟨p, 0, none⟩)] w fun e w' => e = .returned (.int .i64 (T.length : Nat)) ∧ w = w' := by
  obtain ⟨N, g, h1, rfl, _⟩ := h
  have c1 := mcell h1.mem.tab 13 rfl
  rw [show N.length = (Mm.view N).length by simp [Mm.view]] at c1
  clear h1
  go_enter Try.func31, Try.ntmps31
  go_wp2_with fail
  go_ret
  exact ⟨rfl, rfl⟩
theorem msize_any {w : World} {p : Nat} {F : Nat → Prop} {T : List Mm.Tv} (h : Tab w p F T) :
    Calls Try.prog 32 #[.pointer (some ⟨p, 0, none⟩)] w fun e w' => e = .returned (.int .i64 (Mm.size T : Nat)) ∧ w = w' := by
  obtain ⟨N, g, h1, rfl, _⟩ := h
  have c1 := mcell h1.mem.tab 14 rfl
  clear h1
  go_enter Try.func32, Try.ntmps32
  go_wp2_with fail
  go_ret
  exact ⟨rfl, rfl⟩
/-- what is got, as values -/
def getV (T : List Mm.Tv) (k : List UInt8) (s : Nat) : Value := .tuple #[entV ((Mm.get T k s).getD Mm.zent), .bool (Mm.get T k s).isSome]
theorem box4 {w w1 : World} {a b c d : Value} {t : TypeId} (k : Kept (w.alloc (.cells #[a, b, c, d] t)) w1) :
    w1.cell? ⟨w.heap.size, 0, none⟩ = some a ∧ w1.cell? ⟨w.heap.size, 1, none⟩ = some b ∧ w1.cell? ⟨w.heap.size, 2, none⟩ = some c ∧ w1.cell? ⟨w.heap.size, 3, none⟩ = some d ∧ (∀ j, w1.frozen? ⟨w.heap.size, j, none⟩ = false) ∧ w.heap.size < w1.heap.size ∧ Kept w w1 := by
  have hb : w1.heap[w.heap.size]? = some (.cells #[a, b, c, d] t) := (Below.block k _ (by rw [malloc_size]; omega)).trans (malloc_new w _)
  exact ⟨mcell hb _ rfl, mcell hb _ rfl, mcell hb _ rfl, mcell hb _ rfl, fun j => mfrozen hb j, mheap_lt hb, kept_trans ((Kept.refl w).alloc _) k⟩
theorem mget_any {w : World} {p : Nat} {F : Nat → Prop} {T : List Mm.Tv} (h : Tab w p F T) (k : List UInt8) (s : Nat) :
    Calls Try.prog 29 #[.pointer (some ⟨p, 0, none⟩), .string (bs k), .int .u64 (s : Nat)] w fun e w' => e = .returned (getV T k s) ∧ Kept w w' := by
  obtain ⟨N, g, h1, rfl, _⟩ := h
  have hc := fun W (K : Kept w W) => mfirst_any (h1.kept K) k s
  have hz := Mm.view_Z N k s
  cases hn : Mm.nZ N k s with
  | nil =>
    rw [hn] at hc hz
    have hg : Mm.get (Mm.view N) k s = none := by unfold Mm.get; rw [← hz]; rfl
    unfold getV
    rw [hg]
    simp only [List.head?_nil, Option.map_none, pv] at hc
    clear h1 hz hn hg
    go_enter Try.func29, Try.ntmps29
    go_wp2_with fail
    refine (hc _ ((Kept.refl _).alloc _)).mono ?_
    rintro e w1 ⟨rfl, g1⟩
    obtain ⟨d0, d1, d2, d3, f0, hlt, gk⟩ := box4 g1
    go_wp2_with fail
    refine bodyPost_ret (v := .tuple #[entV Mm.zent, .bool false]) (by simp [results, Try.results29, go_sem, entV, Mm.zent, bs, d0, d1, d2, d3]) rfl ⟨rfl, ?_⟩
    exact kept_own (kept_own (kept_own (kept_own gk (Nat.le_refl _)) (Nat.le_refl _)) (Nat.le_refl _)) (Nat.le_refl _)
  | cons z r =>
    rw [hn] at hc hz
    have hzn : z ∈ N := nZ_sub (k := k) (s := s) (by rw [hn]; simp)
    have hlt := h1.mem.lt (List.mem_cons_of_mem p (List.mem_map.2 ⟨z, hzn, rfl⟩))
    obtain ⟨b0, b1, b2, b3, b4⟩ := h1.mem.ent hzn
    simp only [List.head?_cons, Option.map_some, pv] at hc
    by_cases hk : z.e.key = k
    · have hg : Mm.get (Mm.view N) k s = some z.e := by unfold Mm.get; rw [← hz]; simp [Mm.view, Mm.Nd.v, hk]
      have e1 : ((bs z.e.key).toList == (bs k).toList) = true := by rw [mbs_eq]; exact decide_eq_true hk
      unfold getV
      rw [hg]
      clear h1 hz hn hg hk hzn
      go_enter Try.func29, Try.ntmps29
      go_wp2_with fail
      refine (hc _ ((Kept.refl _).alloc _)).mono ?_
      rintro e w1 ⟨rfl, g1⟩
      obtain ⟨d0, d1, d2, d3, f0, hlt1, gk⟩ := box4 g1
      have a0 := (kept_cell gk (p := ⟨z.b, 0, none⟩) hlt).trans b0
      have a1 := (kept_cell gk (p := ⟨z.b, 1, none⟩) hlt).trans b1
      have a2 := (kept_cell gk (p := ⟨z.b, 2, none⟩) hlt).trans b2
      have a3 := (kept_cell gk (p := ⟨z.b, 3, none⟩) hlt).trans b3
      clear b0 b1 b2 b3 b4
      go_wp2_with fail
      refine bodyPost_ret (v := .tuple #[entV z.e, .bool true]) (by simp [results, Try.results29, go_sem, entV, d0, d1, d2, d3]) rfl ⟨rfl, ?_⟩
      exact kept_own (kept_own (kept_own (kept_own gk (Nat.le_refl _)) (Nat.le_refl _)) (Nat.le_refl _)) (Nat.le_refl _)
    · have hg : Mm.get (Mm.view N) k s = none := by unfold Mm.get; rw [← hz]; simp [Mm.view, Mm.Nd.v, hk]
      have e1 : ((bs z.e.key).toList == (bs k).toList) = false := by rw [mbs_eq]; exact decide_eq_false hk
      unfold getV
      rw [hg]
      clear h1 hz hn hg hk hzn
      go_enter Try.func29, Try.ntmps29
      go_wp2_with fail
      refine (hc _ ((Kept.refl _).alloc _)).mono ?_
      rintro e w1 ⟨rfl, g1⟩
      obtain ⟨d0, d1, d2, d3, f0, hlt1, gk⟩ := box4 g1
      have a0 := (kept_cell gk (p := ⟨z.b, 0, none⟩) hlt).trans b0
      clear b0 b1 b2 b3 b4
      go_wp2_with fail
      refine bodyPost_ret (v := .tuple #[entV Mm.zent, .bool false]) (by simp [results, Try.results29, go_sem, entV, Mm.zent, bs, d0, d1, d2, d3]) rfl ⟨rfl, ?_⟩
      exact kept_own (kept_own (kept_own (kept_own gk (Nat.le_refl _)) (Nat.le_refl _)) (Nat.le_refl _)) (Nat.le_refl _)
end Go.Proofs.Ytpbhbgoaaephgaa
