/-
  Put of package mem: the new entry is brought in, level by level; the table has then the entries and the new one, in order.
-/
import Derived.Test.YtpbhbgoaaephgaaMemFns
namespace Go.Proofs.Ytpbhbgoaaephgaa
open Go.ChangeShapes Go.WideShapes Go.ChangeAt Go.RowKit
set_option linter.unusedVariables false
set_option maxRecDepth 100000
set_option maxHeartbeats 1000000

theorem pv_ptr (v : Option Nat) : pv v = .pointer (v.map fun b => ⟨b, 0, none⟩) := by cases v <;> rfl
def upd (g : Nat → Nat → Option Nat) (b j : Nat) (v : Option Nat) : Nat → Nat → Option Nat := fun b' => if b' = b then (fun j' => if j' = j then v else g b j') else g b'
theorem upd_at (g : Nat → Nat → Option Nat) (b j : Nat) (v : Option Nat) : upd g b j v b = fun j' => if j' = j then v else g b j' := by unfold upd; rw [if_pos rfl]
theorem upd_off (g : Nat → Nat → Option Nat) {b b' : Nat} (j : Nat) (v : Option Nat) (h : b' ≠ b) : upd g b j v b' = g b' := by unfold upd; rw [if_neg h]
theorem upd_val (g : Nat → Nat → Option Nat) (b j : Nat) (v : Option Nat) (b' j' : Nat) : upd g b j v b' j' = if b' = b ∧ j' = j then v else g b' j' := by
  unfold upd
  by_cases h : b' = b
  · subst h; rw [if_pos rfl]; simp
  · rw [if_neg h, if_neg (fun c => h c.1)]
theorem tab_set (f : Nat → Option Nat) (c s : Nat) (v : Option Nat) : ∀ j, j < 8 → some (Obj.cells (#[.string (bs []), .int .u64 0, .bool false, .string (bs []), .int .i64 0, pv (f 0), pv (f 1), pv (f 2), pv (f 3), pv (f 4), pv (f 5), pv (f 6), pv (f 7), .int .i64 (c : Nat), .int .i64 (s : Nat)].setIfInBounds (5 + j) (pv v)) 83) = some (tabObj (fun j' => if j' = j then v else f j') c s) :=
  eight rfl rfl rfl rfl rfl rfl rfl rfl
theorem node_set (x : Mm.Nd) (f : Nat → Option Nat) (v : Option Nat) : ∀ j, j < 8 → some (Obj.cells (#[.string (bs x.e.key), .int .u64 (x.e.seq : Nat), .bool x.e.del, .string (bs x.e.val), .int .i64 (x.h : Nat), pv (f 0), pv (f 1), pv (f 2), pv (f 3), pv (f 4), pv (f 5), pv (f 6), pv (f 7)].setIfInBounds (5 + j) (pv v)) 81) = some (nodeObj x (fun j' => if j' = j then v else f j')) :=
  eight rfl rfl rfl rfl rfl rfl rfl rfl
theorem nodup_b {N : List Mm.Nd} {x y : Mm.Nd} (h : (Mm.blks N).Nodup) (hx : x ∈ N) (hy : y ∈ N) (e : x.b = y.b) : x = y := by
  induction N with
  | nil => simp at hx
  | cons z N ih =>
    simp only [Mm.blks, List.map_cons, List.nodup_cons, List.mem_map, not_exists, not_and] at h
    rcases List.mem_cons.1 hx with hx1 | hx1
    · rcases List.mem_cons.1 hy with hy1 | hy1
      · rw [hx1, hy1]
      · exact absurd (e.symm.trans (by rw [hx1])) (h.1 y hy1)
    · rcases List.mem_cons.1 hy with hy1 | hy1
      · exact absurd (e.trans (by rw [hy1])) (h.1 x hx1)
      · exact ih h.2 hx1 hy1
theorem Nodes.set {w : World} {p : Nat} {N : List Mm.Nd} {g : Nat → Nat → Option Nat} {c s : Nat} (h : Nodes w p N g c s) (hn : (p :: Mm.blks N).Nodup) {b j : Nat} (hb : b ∈ p :: Mm.blks N) (hj : j < 8) (v : Option Nat) : Nodes (w.setCell ⟨b, 5 + j, none⟩ (pv v)) p N (upd g b j v) c s := by
  have hpn := (List.nodup_cons.1 hn).1
  rcases List.mem_cons.1 hb with rfl | hb
  · refine ⟨?_, fun x hx => ?_⟩
    · rw [upd_at, mheap_set h.tab]
      exact tab_set (g b) c s v j hj
    · have hne : x.b ≠ b := fun e => hpn (by rw [← e]; exact List.mem_map.2 ⟨x, hx, rfl⟩)
      rw [upd_off _ _ _ hne, mheap_other hne]
      exact h.node x hx
  · obtain ⟨y, hy, rfl⟩ := List.mem_map.1 hb
    refine ⟨?_, fun x hx => ?_⟩
    · have hne : p ≠ y.b := fun e => hpn (by rw [e]; exact hb)
      rw [upd_off _ _ _ hne, mheap_other hne]
      exact h.tab
    · by_cases hne : x.b = y.b
      · have := nodup_b (List.nodup_cons.1 hn).2 hx hy hne
        subst this
        rw [upd_at, mheap_set (h.node x hx)]
        exact node_set x (g x.b) v j hj
      · rw [upd_off _ _ _ hne, mheap_other hne]
        exact h.node x hx
theorem Nodes.thaw {w : World} {p : Nat} {N : List Mm.Nd} {g : Nat → Nat → Option Nat} {c s : Nat} (h : Nodes w p N g c s) {b : Nat} (hb : b ∈ p :: Mm.blks N) (j : Nat) : w.frozen? ⟨b, j, none⟩ = false := by
  rcases List.mem_cons.1 hb with rfl | hb
  · exact mfrozen h.tab j
  · obtain ⟨x, hx, rfl⟩ := List.mem_map.1 hb
    exact mfrozen (h.node x hx) j
/-- the links when the levels below l are done -/
def mid (g : Nat → Nat → Option Nat) (X : Nat) (la : Nat → Nat) (l : Nat) (b j : Nat) : Option Nat :=
  if j < l then (if b = X then g (la j) j else if b = la j then some X else g b j) else (if b = X then none else g b j)
theorem mid_step (g : Nat → Nat → Option Nat) (X : Nat) (la : Nat → Nat) (l : Nat) (hX : la l ≠ X) : upd (upd (mid g X la l) X l (g (la l) l)) (la l) l (some X) = mid g X la (l + 1) := by
  funext b j
  rw [upd_val, upd_val]
  unfold mid
  by_cases hj : j = l
  · subst hj
    simp only [and_true, Nat.lt_irrefl, if_false, Nat.lt_succ_self, if_true]
    by_cases h1 : b = la j
    · subst h1; rw [if_pos rfl, if_neg hX]; simp
    · rw [if_neg h1]
      by_cases h2 : b = X
      · rw [if_pos h2, if_pos h2]
      · rw [if_neg h2, if_neg h2, if_neg h2, if_neg h1]
  · rw [if_neg (fun c => hj c.2), if_neg (fun c => hj c.2)]
    by_cases h1 : j < l
    · rw [if_pos h1, if_pos (show j < l + 1 by omega)]
    · rw [if_neg h1, if_neg (show ¬ j < l + 1 by omega)]
def laV (la : Nat → Nat) : Value := .agg #[pv (some (la 0)), pv (some (la 1)), pv (some (la 2)), pv (some (la 3)), pv (some (la 4)), pv (some (la 5)), pv (some (la 6)), pv (some (la 7))]
theorem ex_set {F : Nat → Prop} {w wr : World} {b o : Nat} {v : Value} (h : Ex F w wr) (hb : b < w.heap.size → F b) : Ex F w (wr.setCell ⟨b, o, none⟩ v) :=
  ⟨h.os, h.tape, h.output, by have := h.size; simpa [World.setCell] using this, fun k hk hn => (mheap_other (fun e => hn (hb (by omega) |> fun q => by rw [e]; exact q))).trans (h.block k hk hn)⟩
theorem Ex.drew {F : Nat → Prop} {w wr : World} (h : Ex F w wr) : Ex F w wr.drew := ⟨h.os, h.tape, h.output, h.size, h.block⟩
theorem Nodes.drew {w : World} {p : Nat} {N : List Mm.Nd} {g : Nat → Nat → Option Nat} {c s : Nat} (h : Nodes w p N g c s) : Nodes w.drew p N g c s := ⟨h.tab, h.node⟩
theorem mlink_any {w : World} {p : Nat} {N : List Mm.Nd} {g : Nat → Nat → Option Nat} {c s : Nat} (x : Mm.Nd) (la : Nat → Nat) (h : Nodes w p (x :: N) (mid g x.b la 0) c s) (hn : (p :: Mm.blks (x :: N)).Nodup) (hl : ∀ j, la j ∈ p :: Mm.blks N) (hh : x.h ≤ 8) :
    Calls Try.prog 60 #[.pointer (some ⟨x.b, 0, none⟩), laV la] w fun e w' => (∃ v, e = .returned v) ∧ Nodes w' p (x :: N) (mid g x.b la x.h) c s ∧ Ex (fun b => b ∈ p :: Mm.blks (x :: N)) w w' := by
  have hX : ∀ j, la j ≠ x.b := fun j e => by
    have h1 := hl j
    rw [e] at h1
    have h2 := hn
    simp only [Mm.blks, List.map_cons, List.nodup_cons, List.mem_cons, not_or] at h2
    rcases List.mem_cons.1 h1 with h3 | h3
    · exact h2.1.1 h3.symm
    · exact h2.2.1 h3
  have hlx : ∀ j, la j ∈ p :: Mm.blks (x :: N) := fun j => by
    rcases List.mem_cons.1 (hl j) with h3 | h3
    · rw [h3]; exact List.mem_cons_self
    · exact List.mem_cons_of_mem _ (List.mem_cons_of_mem _ h3)
  have hxx : x.b ∈ p :: Mm.blks (x :: N) := List.mem_cons_of_mem _ List.mem_cons_self
  have hlt := fun j => h.lt (hlx j)
  have hxlt := h.lt hxx
  have HL := Lib.hid hlx; have HXX := Lib.hid hxx; have HX := Lib.hid hX; have HN := Lib.hid hn
  have HH := Lib.hid h
  obtain ⟨_, _, _, _, b4⟩ := h.ent (x := x) List.mem_cons_self
  have hlaV : laV la = .agg #[.pointer (some ⟨la 0, 0, none⟩), .pointer (some ⟨la 1, 0, none⟩), .pointer (some ⟨la 2, 0, none⟩), .pointer (some ⟨la 3, 0, none⟩), .pointer (some ⟨la 4, 0, none⟩), .pointer (some ⟨la 5, 0, none⟩), .pointer (some ⟨la 6, 0, none⟩), .pointer (some ⟨la 7, 0, none⟩)] := rfl
  rw [hlaV]
  clear h hn hl hlx hxx hX hlaV
  go_enter Try.func60, Try.ntmps60
  go_wp2_with fail
  go_loopw [9] (fun t wr => ∃ l : Nat, l ≤ x.h ∧ t = .int .i64 l ∧ Hid (Nodes wr p (x :: N) (mid g x.b la l) c s) ∧ Hid (Ex (fun b => b ∈ p :: Mm.blks (x :: N)) w wr) ∧ Hid (wr.heap[w.heap.size]? = some (eightObj (fun j => pv (some (la j)))))) (fun t _ => x.h - (intOf t).toNat)
  case atStart =>
    exact ⟨0, Nat.zero_le _, rfl, Lib.hid (HH.out.kept ((Kept.refl _).alloc _)), Lib.hid (ex_kept ((Kept.refl _).alloc _)), Lib.hid (malloc_new w _)⟩
  case round =>
    obtain ⟨l, hl, rfl, HI, HE, HB⟩ := hrel
    by_cases hlh : l < x.h
    · have c1 : wr.cell? ⟨w.heap.size, l, none⟩ = some (.pointer (some ⟨la l, 0, none⟩)) := eight_cell HB.out (by omega)
      have c2 := HI.out.link (HL.out l) (j := l) (by omega)
      have c3 := HI.out.link HXX.out (j := l) (by omega)
      have f3 := HI.out.thaw HXX.out (5 + l)
      have e2 : mid g x.b la l (la l) l = g (la l) l := by unfold mid; rw [if_neg (Nat.lt_irrefl l), if_neg (HX.out l)]
      have e3 : mid g x.b la l x.b l = none := by unfold mid; rw [if_neg (Nat.lt_irrefl l), if_pos rfl]
      rw [e2, pv_ptr] at c2
      rw [e3, pv_ptr] at c3
      have hla := hlt l
      clear e2 e3
      go_wp2_with fail
      go_region
      have N1 := (HI.out.set HN.out HXX.out (j := l) (by omega) (g (la l) l)).drew
      have E1 := (ex_set (o := 5 + l) (v := pv (g (la l) l)) HE.out (fun _ => HXX.out)).drew
      have B1 : ((wr.setCell ⟨x.b, 5 + l, none⟩ (pv (g (la l) l))).drew).heap[w.heap.size]? = some (eightObj (fun j => pv (some (la j)))) := (mheap_other (by omega)).trans HB.out
      rw [pv_ptr] at N1 E1 B1
      clear HI HE HB c1 c2 c3 f3
      generalize (wr.setCell ⟨x.b, 5 + l, none⟩ (Value.pointer (Option.map (fun b => (⟨b, 0, none⟩ : Addr)) (g (la l) l)))).drew = w1 at *
      have c1 : w1.cell? ⟨w.heap.size, l, none⟩ = some (.pointer (some ⟨la l, 0, none⟩)) := eight_cell B1 (by omega)
      have c2 := N1.link (HL.out l) (j := l) (by omega)
      have f2 := N1.thaw (HL.out l) (5 + l)
      rw [pv_ptr] at c2
      have N2 := Lib.hid (N1.set HN.out (HL.out l) (j := l) (by omega) (some x.b))
      rw [mid_step _ _ _ _ (HX.out l)] at N2
      have E2 := Lib.hid (ex_set (o := 5 + l) (v := pv (some x.b)) E1 (fun _ => HL.out l))
      have B2 : Hid ((w1.setCell ⟨la l, 5 + l, none⟩ (pv (some x.b))).heap[w.heap.size]? = some (eightObj (fun j => pv (some (la j))))) := Lib.hid ((mheap_other (by omega)).trans B1)
      generalize mid g x.b la l = Gm at *
      clear N1 E1 B1
      go_wp2_with fail
      go_roundw
      case rel => exact ⟨l + 1, by omega, by go_num, N2, E2, B2⟩
      case measure => simp [intOf]; omega
    · have e : l = x.h := by omega
      subst e
      go_wp2_with fail
      go_end0
      exact ⟨⟨_, rfl⟩, HI.out, HE.out⟩
theorem Nodes.count {w : World} {p : Nat} {N : List Mm.Nd} {g : Nat → Nat → Option Nat} {c s : Nat} (h : Nodes w p N g c s) (hn : (p :: Mm.blks N).Nodup) (c' : Nat) : Nodes (w.setCell ⟨p, 13, none⟩ (.int .i64 (c' : Nat))) p N g c' s :=
  ⟨by rw [mheap_set h.tab]; rfl, fun x hx => (mheap_other (fun e => (List.nodup_cons.1 hn).1 (by rw [← e]; exact List.mem_map.2 ⟨x, hx, rfl⟩))).trans (h.node x hx)⟩
theorem Nodes.sized {w : World} {p : Nat} {N : List Mm.Nd} {g : Nat → Nat → Option Nat} {c s : Nat} (h : Nodes w p N g c s) (hn : (p :: Mm.blks N).Nodup) (s' : Nat) : Nodes (w.setCell ⟨p, 14, none⟩ (.int .i64 (s' : Nat))) p N g c s' :=
  ⟨by rw [mheap_set h.tab]; rfl, fun x hx => (mheap_other (fun e => (List.nodup_cons.1 hn).1 (by rw [← e]; exact List.mem_map.2 ⟨x, hx, rfl⟩))).trans (h.node x hx)⟩
theorem fl_cons_yes {j : Nat} {x : Mm.Nd} {N : List Mm.Nd} (h : j < x.h) : Mm.fl j (x :: N) = x :: Mm.fl j N := by unfold Mm.fl; rw [List.filter_cons, if_pos (by simpa using h)]
theorem fl_cons_no {j : Nat} {x : Mm.Nd} {N : List Mm.Nd} (h : ¬ j < x.h) : Mm.fl j (x :: N) = Mm.fl j N := by unfold Mm.fl; rw [List.filter_cons, if_neg (by simpa using h)]
theorem fl_blks_sub {j : Nat} {N : List Mm.Nd} {b : Nat} (h : b ∈ Mm.blks (Mm.fl j N)) : b ∈ Mm.blks N := by
  obtain ⟨x, hx, rfl⟩ := List.mem_map.1 h
  exact List.mem_map.2 ⟨x, fl_sub hx, rfl⟩
theorem fl_nodup {j p : Nat} {N : List Mm.Nd} (h : (p :: Mm.blks N).Nodup) : (p :: Mm.blks (Mm.fl j N)).Nodup := by
  obtain ⟨h1, h2⟩ := List.nodup_cons.1 h
  refine List.nodup_cons.2 ⟨fun e => h1 (fl_blks_sub e), ?_⟩
  exact List.Sublist.nodup (List.Sublist.map _ (List.filter_sublist)) h2
/-- a new node that was linked in between -/
theorem IsTab.ins {w w' : World} {p : Nat} {N : List Mm.Nd} {g : Nat → Nat → Option Nat} (h : IsTab w p N g) (hf : N.length < 1000) (x : Mm.Nd) (hx : x.b ∉ p :: Mm.blks N) (hc : Mm.code (Mm.view N) x.e (x.h : Nat) = 0)
    (hm : Nodes w' p (x :: N) (mid g x.b (lastAt p (Mm.nA N x.e.key x.e.seq)) x.h) (N.length + 1) (Mm.size (Mm.view N) + Mm.sizeE x.e)) :
    IsTab w' p (Mm.nA N x.e.key x.e.seq ++ x :: Mm.nZ N x.e.key x.e.seq) (mid g x.b (lastAt p (Mm.nA N x.e.key x.e.seq)) x.h) ∧ Mm.view (Mm.nA N x.e.key x.e.seq ++ x :: Mm.nZ N x.e.key x.e.seq) = Mm.put (Mm.view N) x.e (x.h : Nat) := by
  have hv : Mm.view (Mm.nA N x.e.key x.e.seq ++ x :: Mm.nZ N x.e.key x.e.seq) = Mm.put (Mm.view N) x.e (x.h : Nat) := by
    rw [Mm.put_yes hc, Mm.view_app, Mm.view_A, ← Mm.view_Z]
    simp [Mm.view, Mm.Nd.v]
  have hlen : (Mm.nA N x.e.key x.e.seq ++ x :: Mm.nZ N x.e.key x.e.seq).length = N.length + 1 := by
    conv => rhs; rw [← Mm.nAZ N x.e.key x.e.seq]
    simp; omega
  have hmem : ∀ y, y ∈ Mm.nA N x.e.key x.e.seq ++ x :: Mm.nZ N x.e.key x.e.seq ↔ y ∈ x :: N := fun y => by
    conv => rhs; rw [← Mm.nAZ N x.e.key x.e.seq]
    simp only [List.mem_append, List.mem_cons]
    exact or_left_comm
  have hsz : Mm.size (Mm.put (Mm.view N) x.e (x.h : Nat)) = Mm.size (Mm.view N) + Mm.sizeE x.e := Mm.put_size hc
  refine ⟨⟨?_, fun j hj => ?_, ?_, ?_, ?_⟩, hv⟩
  · rw [hlen, hv, hsz]
    exact ⟨hm.tab, fun y hy => hm.node y ((hmem y).1 hy)⟩
  · have hch := h.chain j hj
    have hnd := fl_nodup (j := j) h.nodup
    have hxn : x.b ∉ p :: Mm.blks (Mm.fl j N) := fun e => hx (by
      rcases List.mem_cons.1 e with e | e
      · rw [e]; exact List.mem_cons_self
      · exact List.mem_cons_of_mem _ (fl_blks_sub e))
    have hfl : Mm.fl j N = Mm.fl j (Mm.nA N x.e.key x.e.seq) ++ Mm.fl j (Mm.nZ N x.e.key x.e.seq) := by rw [← Mm.fl_app, Mm.nAZ]
    rw [Mm.fl_app]
    by_cases hjh : j < x.h
    · rw [fl_cons_yes hjh, Mm.blks_app]
      rw [hfl, Mm.blks_app] at hch hnd hxn
      have hla : Mm.lst p (Mm.blks (Mm.fl j (Mm.nA N x.e.key x.e.seq))) = lastAt p (Mm.nA N x.e.key x.e.seq) j := rfl
      have hne : lastAt p (Mm.nA N x.e.key x.e.seq) j ≠ x.b := fun e => hxn (by
        rw [← e, ← hla]
        rcases Mm.lst_mem p (Mm.blks (Mm.fl j (Mm.nA N x.e.key x.e.seq))) with h' | h'
        · rw [h']; exact List.mem_cons_self
        · exact List.mem_cons_of_mem _ (List.mem_append.2 (.inl h')))
      refine hch.ins hnd hxn ?_ ?_ ?_
      · rw [hla]; unfold mid; rw [if_pos hjh, if_pos rfl]
      · rw [hla]; unfold mid; rw [if_pos hjh, if_neg hne, if_pos rfl]
      · intro b h1 h2
        rw [hla] at h2
        unfold mid; rw [if_pos hjh, if_neg h1, if_neg h2]
    · rw [fl_cons_no hjh, ← hfl]
      refine hch.congr fun b hb => ?_
      unfold mid
      rw [if_neg hjh, if_neg (fun e => hxn (by rw [← e]; exact hb))]
  · have hp : List.Perm (p :: Mm.blks (Mm.nA N x.e.key x.e.seq ++ x :: Mm.nZ N x.e.key x.e.seq)) (x.b :: p :: Mm.blks N) := by
      refine List.Perm.trans (List.Perm.cons p ?_) (List.Perm.swap _ _ _)
      conv => rhs; rw [← Mm.nAZ N x.e.key x.e.seq]
      rw [Mm.blks_app, Mm.blks_app]
      exact List.perm_middle
    exact hp.nodup_iff.2 (List.nodup_cons.2 ⟨hx, h.nodup⟩)
  · rw [hv]; exact h.good.put _ _
  · rw [hlen]; omega
end Go.Proofs.Ytpbhbgoaaephgaa
