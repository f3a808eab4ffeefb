/-
  Several small texts as one.
-/
import Derived.Test.YtnnmalpnjlnnlaaGreatPackMath
import Derived.Test.YtnnmalpnjlnnlaaGreatNumRef
import Derived.Deep.QuietTactic
import Derived.BigQuiet
import Derived.RegionTactic
import Derived.BigRegion
import Derived.Deep.RegionWith
import Derived.Deep.Slices
import Derived.Deep.Fields
import Derived.ChangeSame
import Derived.OpenShut
import Derived.Laws.AppendOwnNone
/-
  A table of package mem in memory: an entry and its links, level by level; and that it stays one while other memory is changed.
-/
namespace Go.Proofs.YtnnmalpnjlnnlaaGreat
open Go.ChangeShapes Go.WideShapes Go.ChangeAt Go.RowKit
set_option linter.unusedVariables false
set_option maxRecDepth 100000
set_option maxHeartbeats 400000

/-- the blocks that aren't F's are as they were; there may be new memory -/
structure Ex (F : Nat → Prop) (w w' : World) : Prop where
  os : w'.os = w.os
  tape : w'.tape = w.tape
  output : w'.output = w.output
  size : w.heap.size ≤ w'.heap.size
  block : ∀ k, k < w.heap.size → ¬ F k → w'.heap[k]? = w.heap[k]?
theorem Ex.refl (F : Nat → Prop) (w : World) : Ex F w w := ⟨rfl, rfl, rfl, Nat.le_refl _, fun _ _ _ => rfl⟩
theorem Ex.trans {F F' : Nat → Prop} {a b c : World} (h : Ex F a b) (k : Ex F' b c) (hf : ∀ i, i < a.heap.size → F' i → F i) : Ex F a c :=
  ⟨k.os.trans h.os, k.tape.trans h.tape, k.output.trans h.output, Nat.le_trans h.size k.size, fun i hi hn => (k.block i (Nat.lt_of_lt_of_le hi h.size) (fun e => hn (hf i hi e))).trans (h.block i hi hn)⟩
theorem Ex.mono {F F' : Nat → Prop} {a b : World} (h : Ex F a b) (hf : ∀ i, F i → F' i) : Ex F' a b := ⟨h.os, h.tape, h.output, h.size, fun i hi hn => h.block i hi (fun e => hn (hf i e))⟩
theorem ex_kept {F : Nat → Prop} {a b : World} (h : Kept a b) : Ex F a b := ⟨Below.os h, Below.tape h, Below.output h, Below.size h, fun i hi _ => Below.block h i hi⟩
theorem Ex.below {F : Nat → Prop} {a b : World} {B : Nat} (h : Ex F a b) (hB : B ≤ a.heap.size) (hf : ∀ i, F i → B ≤ i) : Below B a b :=
  ⟨h.os, h.tape, h.output, h.size, fun i hi => h.block i (Nat.lt_of_lt_of_le hi hB) (fun e => by have := hf i e; omega)⟩

def entV (x : Mm.Ent) : Value := .agg #[.string (bs x.key), .int .u64 (x.seq : Nat), .bool x.del, .string (bs x.val)]
def pv : Option Nat → Value
  | none => .pointer none
  | some b => .pointer (some ⟨b, 0, none⟩)
theorem mheap_lt {w : World} {b : Nat} {o : Obj} (h : w.heap[b]? = some o) : b < w.heap.size := (Array.getElem?_eq_some_iff.1 h).1
theorem mcell {w : World} {b : Nat} {c : Array Value} {t : TypeId} {fr : Nat × Nat} (h : w.heap[b]? = some (.cells c t fr)) (i : Nat) {v : Value} (hv : c[i]? = some v) : w.cell? ⟨b, i, none⟩ = some v := by
  simp [World.cell?, h, hv]
theorem mfrozen {w : World} {b : Nat} {c : Array Value} {t : TypeId} (h : w.heap[b]? = some (.cells c t)) (i : Nat) : w.frozen? ⟨b, i, none⟩ = false := by
  simp [World.frozen?, h]
theorem malloc_new (w : World) (o : Obj) : (w.alloc o).heap[w.heap.size]? = some o := heap_alloc_new w o
theorem malloc_old (w : World) (o : Obj) {k : Nat} (h : k < w.heap.size) : (w.alloc o).heap[k]? = w.heap[k]? := Below.block ((Kept.refl w).alloc o) k h
theorem malloc_size (w : World) (o : Obj) : (w.alloc o).heap.size = w.heap.size + 1 := World.size_alloc ..
theorem eight {P : Nat → Prop} (h0 : P 0) (h1 : P 1) (h2 : P 2) (h3 : P 3) (h4 : P 4) (h5 : P 5) (h6 : P 6) (h7 : P 7) : ∀ j, j < 8 → P j := fun j hj => by
  match j, hj with
  | 0, _ => exact h0
  | 1, _ => exact h1
  | 2, _ => exact h2
  | 3, _ => exact h3
  | 4, _ => exact h4
  | 5, _ => exact h5
  | 6, _ => exact h6
  | 7, _ => exact h7
theorem mbs_eq (a b : List UInt8) : ((bs a).toList == (bs b).toList) = decide (a = b) := by
  rw [Lib.toList_data, Lib.toList_data, bs_data, bs_data]
  by_cases h : a = b
  · rw [decide_eq_true h, h]; simp
  · rw [decide_eq_false h]; simpa using h
theorem mbs_less (a b : List UInt8) : Op.bytesLess (bs a).toList (bs b).toList = decide (a < b) := by
  rw [Lib.toList_data, Lib.toList_data, bs_data, bs_data, Mm.less_eq]
theorem mbs_size (l : List UInt8) : (bs l).size = l.length := by simp [bs, ByteArray.size]
theorem fl_sub {j : Nat} {N : List Mm.Nd} {x : Mm.Nd} (h : x ∈ Mm.fl j N) : x ∈ N := (List.mem_filter.1 h).1
theorem lst_in {p : Nat} {u N : List Mm.Nd} (h : ∀ x ∈ u, x ∈ N) : Mm.lst p (Mm.blks u) ∈ p :: Mm.blks N := by
  rcases Mm.lst_mem p (Mm.blks u) with e | e
  · rw [e]; exact List.mem_cons_self
  · obtain ⟨x, hx, e2⟩ := List.mem_map.1 e
    exact List.mem_cons_of_mem _ (List.mem_map.2 ⟨x, h x hx, e2⟩)
theorem nA_ah {N : List Mm.Nd} {k : List UInt8} {s : Nat} {x : Mm.Nd} (h : x ∈ Mm.nA N k s) : x.e.ah k s = true := by
  have : x.v ∈ Mm.A (Mm.view N) k s := by rw [← Mm.view_A]; exact List.mem_map.2 ⟨x, h, rfl⟩
  exact Mm.A_ah _ this
theorem nZ_not {N : List Mm.Nd} (g : Mm.Good (Mm.view N)) {k : List UInt8} {s : Nat} {x : Mm.Nd} (h : x ∈ Mm.nZ N k s) : x.e.ah k s = false := by
  have : x.v ∈ Mm.Z (Mm.view N) k s := by rw [← Mm.view_Z]; exact List.mem_map.2 ⟨x, h, rfl⟩
  exact g.Z_not _ this
end Go.Proofs.YtnnmalpnjlnnlaaGreat

/-
  The search of package mem: for each level the last one that is ahead, and how many entries were passed.
-/
namespace Go.Proofs.YtnnmalpnjlnnlaaGreat
open Go.ChangeShapes Go.WideShapes Go.ChangeAt Go.RowKit
set_option linter.unusedVariables false
set_option maxRecDepth 100000
set_option maxHeartbeats 1000000

def lastAt (p : Nat) (A : List Mm.Nd) (j : Nat) : Nat := Mm.lst p (Mm.blks (Mm.fl j A))
def lasts (p : Nat) (A : List Mm.Nd) : Value := .agg #[pv (some (lastAt p A 0)), pv (some (lastAt p A 1)), pv (some (lastAt p A 2)), pv (some (lastAt p A 3)), pv (some (lastAt p A 4)), pv (some (lastAt p A 5)), pv (some (lastAt p A 6)), pv (some (lastAt p A 7))]
def lastQ (p : Nat) (A : List Mm.Nd) (l : Nat) (j : Nat) : Value := if l ≤ j then pv (some (lastAt p A j)) else pv none
theorem mheap_set {w : World} {b o : Nat} {v : Value} {c : Array Value} {t : TypeId} {fr : Nat × Nat} (h : w.heap[b]? = some (.cells c t fr)) : (w.setCell ⟨b, o, none⟩ v).heap[b]? = some (.cells (c.setIfInBounds o v) t fr) := by
  simp [World.setCell, Array.getElem?_modify, h]
theorem mheap_other {w : World} {b o : Nat} {v : Value} {k : Nat} (h : k ≠ b) : (w.setCell ⟨b, o, none⟩ v).heap[k]? = w.heap[k]? := Below.heap_setCell _ _ _ _ h
theorem kept_own {w wr : World} {b o : Nat} {v : Value} (h : Kept w wr) (hb : w.heap.size ≤ b) : Kept w (wr.setCell ⟨b, o, none⟩ v) :=
  ⟨(Below.os h : _), (Below.tape h : _), (Below.output h : _), by have := Below.size h; simpa [World.setCell] using this, fun k hk => (mheap_other (by omega)).trans (Below.block h k hk)⟩
theorem lastQ_step (p : Nat) (A : List Mm.Nd) (l : Nat) (hl : l < 8) : (fun i => if i = l then pv (some (lastAt p A l)) else lastQ p A (l + 1) i) = lastQ p A l := by
  funext i
  unfold lastQ
  by_cases h : i = l
  · subst h; rw [if_pos rfl, if_pos (Nat.le_refl _)]
  · rw [if_neg h]
    by_cases h1 : l + 1 ≤ i
    · rw [if_pos h1, if_pos (by omega)]
    · rw [if_neg h1, if_neg (by omega)]
end Go.Proofs.YtnnmalpnjlnnlaaGreat

/-
  What the functions of package mem tell of a table, whatever it holds: may an entry be, what is got, all entries, those from a key on, towers, how long a search is.
-/
namespace Go.Proofs.YtnnmalpnjlnnlaaGreat
open Go.ChangeShapes Go.WideShapes Go.ChangeAt Go.RowKit
set_option linter.unusedVariables false
set_option maxRecDepth 100000
set_option maxHeartbeats 1000000

theorem hs_view (N : List Mm.Nd) : Mm.hs N = Mm.hts (Mm.view N) := by simp [Mm.hs, Mm.hts, Mm.view, Mm.Nd.v]
theorem mval_nil (v : List UInt8) : (bs v).toList.isEmpty = decide (v = []) := by
  rw [Lib.toList_data, bs_data]
  cases v <;> rfl
theorem mmay_no {x : Mm.Ent} (h : ¬ (1 ≤ x.key.length ∧ x.key.length ≤ 100 ∧ x.val.length ≤ 100 ∧ (x.del = true → x.val = []) ∧ 1 ≤ x.seq ∧ x.seq ≤ 1099511627776)) : Mm.may x = false := by
  rw [Bool.eq_false_iff, ne_eq, Mm.may_iff]; exact h
theorem fl_low {N : List Mm.Nd} (h : ∀ x ∈ N, 1 ≤ x.h) : Mm.fl 0 N = N := by
  unfold Mm.fl
  rw [List.filter_eq_self]
  intro x hx
  have := h x hx
  simp; omega
theorem low_of {N : List Mm.Nd} (h : Mm.Good (Mm.view N)) : ∀ x ∈ N, 1 ≤ x.h := fun x hx => h.low x.v (List.mem_map.2 ⟨x, hx, rfl⟩)
theorem nA_sub {N : List Mm.Nd} {k : List UInt8} {s : Nat} {x : Mm.Nd} (h : x ∈ Mm.nA N k s) : x ∈ N := by rw [← Mm.nAZ N k s]; exact List.mem_append.2 (.inl h)
theorem nZ_sub {N : List Mm.Nd} {k : List UInt8} {s : Nat} {x : Mm.Nd} (h : x ∈ Mm.nZ N k s) : x ∈ N := by rw [← Mm.nAZ N k s]; exact List.mem_append.2 (.inr h)
/-- what is got, as values -/
def getV (T : List Mm.Tv) (k : List UInt8) (s : Nat) : Value := .tuple #[entV ((Mm.get T k s).getD Mm.zent), .bool (Mm.get T k s).isSome]
theorem box4 {w w1 : World} {a b c d : Value} {t : TypeId} (k : Kept (w.alloc (.cells #[a, b, c, d] t)) w1) :
    w1.cell? ⟨w.heap.size, 0, none⟩ = some a ∧ w1.cell? ⟨w.heap.size, 1, none⟩ = some b ∧ w1.cell? ⟨w.heap.size, 2, none⟩ = some c ∧ w1.cell? ⟨w.heap.size, 3, none⟩ = some d ∧ (∀ j, w1.frozen? ⟨w.heap.size, j, none⟩ = false) ∧ w.heap.size < w1.heap.size ∧ Kept w w1 := by
  have hb : w1.heap[w.heap.size]? = some (.cells #[a, b, c, d] t) := (Below.block k _ (by rw [malloc_size]; omega)).trans (malloc_new w _)
  exact ⟨mcell hb _ rfl, mcell hb _ rfl, mcell hb _ rfl, mcell hb _ rfl, fun j => mfrozen hb j, mheap_lt hb, kept_trans ((Kept.refl w).alloc _) k⟩
end Go.Proofs.YtnnmalpnjlnnlaaGreat

/-
  Lists that package mem tells: all entries, those from a key on, towers.
-/
namespace Go.Proofs.YtnnmalpnjlnnlaaGreat
open Go.ChangeShapes Go.WideShapes Go.ChangeAt Go.RowKit
set_option linter.unusedVariables false
set_option maxRecDepth 100000
set_option maxHeartbeats 1000000

theorem own_slice {w : World} {base e size n : Nat} {v : Value} {xs : List Value} (h : w.ownsRow base e size v n xs) : ∃ A c, v = .slice A n c := by
  rcases h.2 with ⟨e1, e0⟩ | ⟨r, cap, cur, e1, _⟩
  · have := h.1; exact ⟨none, 0, by rw [e1, e0]⟩
  · exact ⟨_, _, e1⟩
/-- entries as cells -/
def ecs (x : Mm.Ent) : List Value := [.string (bs x.key), .int .u64 (x.seq : Nat), .bool x.del, .string (bs x.val)]
def elc : List Mm.Ent → List Value
  | [] => []
  | x :: l => ecs x ++ elc l
theorem elc_len : ∀ (l : List Mm.Ent), (elc l).length = l.length * 4
  | [] => rfl
  | x :: l => by simp only [elc, List.length_append, elc_len l, ecs, List.length_cons, List.length_nil]; omega
theorem elc_app : ∀ (l m : List Mm.Ent), elc (l ++ m) = elc l ++ elc m
  | [], m => rfl
  | x :: l, m => by simp only [List.cons_append, elc, elc_app l m, List.append_assoc]
theorem elc_get : ∀ {l : List Mm.Ent} {j : Nat} {x : Mm.Ent}, l[j]? = some x → ∀ i u, (ecs x)[i]? = some u → (elc l)[j * 4 + i]? = some u
  | [], j, x, h, _, _, _ => by simp at h
  | y :: l, 0, x, h, i, u, hu => by
    simp at h; subst h
    have hi := (List.getElem?_eq_some_iff.1 hu).1
    rw [Nat.zero_mul, Nat.zero_add, elc, List.getElem?_append_left (by exact hi)]
    exact hu
  | y :: l, j + 1, x, h, i, u, hu => by
    have := elc_get (l := l) (j := j) (x := x) (by simpa using h) i u hu
    rw [elc, List.getElem?_append_right (by simp [ecs]; omega)]
    simp only [ecs, List.length_cons, List.length_nil]
    rw [show (j + 1) * 4 + i - (0 + 1 + 1 + 1 + 1) = j * 4 + i by omega]
    exact this
/-- a list of entries in memory -/
def Els (w : World) (A : Option Addr) (l : List Mm.Ent) : Prop := ∀ (j : Nat) (x : Mm.Ent), l[j]? = some x → ∃ b o, A = some ⟨b, o, none⟩ ∧ b < w.heap.size ∧ w.cell? ⟨b, o + j * 4, none⟩ = some (.string (bs x.key)) ∧ w.cell? ⟨b, o + j * 4 + 1, none⟩ = some (.int .u64 (x.seq : Nat)) ∧ w.cell? ⟨b, o + j * 4 + 2, none⟩ = some (.bool x.del) ∧ w.cell? ⟨b, o + j * 4 + 3, none⟩ = some (.string (bs x.val))
theorem Els.kept {w w' : World} {A : Option Addr} {l : List Mm.Ent} (h : Els w A l) (k : Kept w w') : Els w' A l := fun j x hx => by
  obtain ⟨b, o, e, hb, h0, h1, h2, h3⟩ := h j x hx
  exact ⟨b, o, e, Nat.lt_of_lt_of_le hb (Below.size k), by rw [kept_cell k hb]; exact h0, by rw [kept_cell k hb]; exact h1, by rw [kept_cell k hb]; exact h2, by rw [kept_cell k hb]; exact h3⟩
/-- a list of entries in new memory -/
structure Elr (n : Nat) (w : World) (A : Option Addr) (c : Nat) (l : List Mm.Ent) : Prop where
  els : Els w A l
  new : ∀ b o, A = some ⟨b, o, none⟩ → n ≤ b
  cap : l.length ≤ c
  most : c ≤ maxLen
theorem Elr.kept {n c : Nat} {w w' : World} {A : Option Addr} {l : List Mm.Ent} (h : Elr n w A c l) (k : Kept w w') : Elr n w' A c l := ⟨h.els.kept k, h.new, h.cap, h.most⟩
theorem Elr.mono {n m c : Nat} {w : World} {A : Option Addr} {l : List Mm.Ent} (h : Elr n w A c l) (k : m ≤ n) : Elr m w A c l := ⟨h.els, fun b o e => Nat.le_trans k (h.new b o e), h.cap, h.most⟩
def zentV : Value := .agg #[.string ⟨#[]⟩, .int .u64 0, .bool false, .string ⟨#[]⟩]
theorem maddr_add (b j : Nat) : (⟨b, 0, none⟩ : Addr).add j = ⟨b, j, none⟩ := by unfold Addr.add; split <;> simp_all
theorem mcells_new4 (w : World) (x y z q : Value) (t : TypeId) (bl : Nat) (hb : bl = w.heap.size) : ∀ j u, [x, y, z, q][j]? = some u → (w.alloc (.cells #[x, y, z, q] t)).cell? ((⟨bl, 0, none⟩ : Addr).add j) = some u := by
  subst hb
  intro j u hj
  rw [maddr_add]
  exact mcell (malloc_new w _) j (by simpa using hj)
/-- how long a slice is -/
def slen : Value → Nat
  | .slice _ n _ => n
  | _ => 0
theorem take_e {E : List Mm.Ent} {k : Nat} {x : Mm.Ent} (h : E[k]? = some x) : elc (E.take (k + 1)) = elc (E.take k) ++ ecs x := by
  rw [List.take_add_one, h, elc_app]
  simp [elc]
theorem ents_view (N : List Mm.Nd) : Mm.ents (Mm.view N) = N.map Mm.Nd.e := by simp [Mm.ents, Mm.view, Mm.Nd.v]
/-- heights as cells -/
def hlc (l : List Nat) : List Value := l.map fun h => .int .i64 (h : Nat)
/-- a list of heights in memory -/
def Hls (w : World) (A : Option Addr) (l : List Nat) : Prop := ∀ (j : Nat) (x : Nat), l[j]? = some x → ∃ b o, A = some ⟨b, o, none⟩ ∧ b < w.heap.size ∧ w.cell? ⟨b, o + j, none⟩ = some (.int .i64 (x : Nat))
theorem Hls.kept {w w' : World} {A : Option Addr} {l : List Nat} (h : Hls w A l) (k : Kept w w') : Hls w' A l := fun j x hx => by
  obtain ⟨b, o, e, hb, h0⟩ := h j x hx
  exact ⟨b, o, e, Nat.lt_of_lt_of_le hb (Below.size k), by rw [kept_cell k hb]; exact h0⟩
theorem hls_own {w : World} {base n : Nat} {v : Value} {l : List Nat} (h : w.ownsRow base 3 1 v n (hlc l)) : ∃ A c, v = .slice A l.length c ∧ n = l.length ∧ Hls w A l := by
  have hl : l.length = n := by have := h.1; simp [hlc] at this; omega
  rcases h.2 with ⟨e, e0⟩ | ⟨r, cap, cur, e, hbs, hb, hnc, _, _, htk⟩
  · have : l = [] := List.eq_nil_of_length_eq_zero (by omega)
    subst this
    exact ⟨none, 0, e, by omega, fun j x hx => by simp at hx⟩
  · refine ⟨some ⟨r, 0, none⟩, cap, by rw [hl]; exact e, hl.symm, fun j x hx => ?_⟩
    have hj := (List.getElem?_eq_some_iff.1 hx).1
    refine ⟨r, 0, rfl, (Array.getElem?_eq_some_iff.1 hb).1, ?_⟩
    have hu : (hlc l)[j]? = some (.int .i64 (x : Nat)) := by unfold hlc; rw [List.getElem?_map, hx]; rfl
    rw [← htk, List.getElem?_take, if_pos (by omega)] at hu
    rw [Nat.zero_add]
    exact mcell hb j (by simpa using hu)
theorem mintInfo : (Tryz.prog.info? 3).map (fun i => (i.zero, i.size, i.bytes)) = some (some (.int .i64 0), 1, 8) := by kernel_rfl
theorem mcells_new1 (w : World) (x : Value) (t : TypeId) (bl : Nat) (hb : bl = w.heap.size) : ∀ j u, [x][j]? = some u → (w.alloc (.cells #[x] t)).cell? ((⟨bl, 0, none⟩ : Addr).add j) = some u := by
  subst hb
  intro j u hj
  rw [maddr_add]
  exact mcell (malloc_new w _) j (by simpa using hj)
theorem take_h {E : List Nat} {k : Nat} {x : Nat} (h : E[k]? = some x) : hlc (E.take (k + 1)) = hlc (E.take k) ++ [.int .i64 (x : Nat)] := by
  rw [List.take_add_one, h]
  simp [hlc]
end Go.Proofs.YtnnmalpnjlnnlaaGreat

/-
  Put of package mem: the new entry is brought in, level by level; the table has then the entries and the new one, in order.
-/
namespace Go.Proofs.YtnnmalpnjlnnlaaGreat
open Go.ChangeShapes Go.WideShapes Go.ChangeAt Go.RowKit
set_option linter.unusedVariables false
set_option maxRecDepth 100000
set_option maxHeartbeats 1000000

theorem pv_ptr (v : Option Nat) : pv v = .pointer (v.map fun b => ⟨b, 0, none⟩) := by cases v <;> rfl
def upd (g : Nat → Nat → Option Nat) (b j : Nat) (v : Option Nat) : Nat → Nat → Option Nat := fun b' => if b' = b then (fun j' => if j' = j then v else g b j') else g b'
theorem upd_at (g : Nat → Nat → Option Nat) (b j : Nat) (v : Option Nat) : upd g b j v b = fun j' => if j' = j then v else g b j' := by unfold upd; rw [if_pos rfl]
theorem upd_off (g : Nat → Nat → Option Nat) {b b' : Nat} (j : Nat) (v : Option Nat) (h : b' ≠ b) : upd g b j v b' = g b' := by unfold upd; rw [if_neg h]
theorem upd_val (g : Nat → Nat → Option Nat) (b j : Nat) (v : Option Nat) (b' j' : Nat) : upd g b j v b' j' = if b' = b ∧ j' = j then v else g b' j' := by
  unfold upd
  by_cases h : b' = b
  · subst h; rw [if_pos rfl]; simp
  · rw [if_neg h, if_neg (fun c => h c.1)]
theorem nodup_b {N : List Mm.Nd} {x y : Mm.Nd} (h : (Mm.blks N).Nodup) (hx : x ∈ N) (hy : y ∈ N) (e : x.b = y.b) : x = y := by
  induction N with
  | nil => simp at hx
  | cons z N ih =>
    simp only [Mm.blks, List.map_cons, List.nodup_cons, List.mem_map, not_exists, not_and] at h
    rcases List.mem_cons.1 hx with hx1 | hx1
    · rcases List.mem_cons.1 hy with hy1 | hy1
      · rw [hx1, hy1]
      · exact absurd (e.symm.trans (by rw [hx1])) (h.1 y hy1)
    · rcases List.mem_cons.1 hy with hy1 | hy1
      · exact absurd (e.trans (by rw [hy1])) (h.1 x hx1)
      · exact ih h.2 hx1 hy1
/-- the links when the levels below l are done -/
def mid (g : Nat → Nat → Option Nat) (X : Nat) (la : Nat → Nat) (l : Nat) (b j : Nat) : Option Nat :=
  if j < l then (if b = X then g (la j) j else if b = la j then some X else g b j) else (if b = X then none else g b j)
theorem mid_step (g : Nat → Nat → Option Nat) (X : Nat) (la : Nat → Nat) (l : Nat) (hX : la l ≠ X) : upd (upd (mid g X la l) X l (g (la l) l)) (la l) l (some X) = mid g X la (l + 1) := by
  funext b j
  rw [upd_val, upd_val]
  unfold mid
  by_cases hj : j = l
  · subst hj
    simp only [and_true, Nat.lt_irrefl, if_false, Nat.lt_succ_self, if_true]
    by_cases h1 : b = la j
    · subst h1; rw [if_pos rfl, if_neg hX]; simp
    · rw [if_neg h1]
      by_cases h2 : b = X
      · rw [if_pos h2, if_pos h2]
      · rw [if_neg h2, if_neg h2, if_neg h2, if_neg h1]
  · rw [if_neg (fun c => hj c.2), if_neg (fun c => hj c.2)]
    by_cases h1 : j < l
    · rw [if_pos h1, if_pos (show j < l + 1 by omega)]
    · rw [if_neg h1, if_neg (show ¬ j < l + 1 by omega)]
def laV (la : Nat → Nat) : Value := .agg #[pv (some (la 0)), pv (some (la 1)), pv (some (la 2)), pv (some (la 3)), pv (some (la 4)), pv (some (la 5)), pv (some (la 6)), pv (some (la 7))]
theorem ex_set {F : Nat → Prop} {w wr : World} {b o : Nat} {v : Value} (h : Ex F w wr) (hb : b < w.heap.size → F b) : Ex F w (wr.setCell ⟨b, o, none⟩ v) :=
  ⟨h.os, h.tape, h.output, by have := h.size; simpa [World.setCell] using this, fun k hk hn => (mheap_other (fun e => hn (hb (by omega) |> fun q => by rw [e]; exact q))).trans (h.block k hk hn)⟩
theorem Ex.drew {F : Nat → Prop} {w wr : World} (h : Ex F w wr) : Ex F w wr.drew := ⟨h.os, h.tape, h.output, h.size, h.block⟩
theorem fl_cons_yes {j : Nat} {x : Mm.Nd} {N : List Mm.Nd} (h : j < x.h) : Mm.fl j (x :: N) = x :: Mm.fl j N := by unfold Mm.fl; rw [List.filter_cons, if_pos (by simpa using h)]
theorem fl_cons_no {j : Nat} {x : Mm.Nd} {N : List Mm.Nd} (h : ¬ j < x.h) : Mm.fl j (x :: N) = Mm.fl j N := by unfold Mm.fl; rw [List.filter_cons, if_neg (by simpa using h)]
theorem fl_blks_sub {j : Nat} {N : List Mm.Nd} {b : Nat} (h : b ∈ Mm.blks (Mm.fl j N)) : b ∈ Mm.blks N := by
  obtain ⟨x, hx, rfl⟩ := List.mem_map.1 h
  exact List.mem_map.2 ⟨x, fl_sub hx, rfl⟩
theorem fl_nodup {j p : Nat} {N : List Mm.Nd} (h : (p :: Mm.blks N).Nodup) : (p :: Mm.blks (Mm.fl j N)).Nodup := by
  obtain ⟨h1, h2⟩ := List.nodup_cons.1 h
  refine List.nodup_cons.2 ⟨fun e => h1 (fl_blks_sub e), ?_⟩
  exact List.Sublist.nodup (List.Sublist.map _ (List.filter_sublist)) h2
end Go.Proofs.YtnnmalpnjlnnlaaGreat

/-
  Put of package mem, whatever is put: what it tells, and what the table has then.
-/
namespace Go.Proofs.YtnnmalpnjlnnlaaGreat
open Go.ChangeShapes Go.WideShapes Go.ChangeAt Go.RowKit
set_option linter.unusedVariables false
set_option maxRecDepth 100000
set_option maxHeartbeats 2000000

theorem mbox4 {w w1 : World} {a b c d : Value} {t : TypeId} (k : Kept (w.alloc (.cells #[a, b, c, d] t)) w1) : w1.heap[w.heap.size]? = some (.cells #[a, b, c, d] t) := (Below.block k _ (by rw [malloc_size]; omega)).trans (malloc_new w _)
theorem two_new (w2 : World) (o o' : Obj) (n : Nat) : (((w2.alloc o).drewN n).alloc o').heap[w2.heap.size + 1]? = some o' := by
  have h := malloc_new ((w2.alloc o).drewN n) o'
  have e : ((w2.alloc o).drewN n).heap.size = w2.heap.size + 1 := malloc_size w2 o
  rw [e] at h
  exact h
end Go.Proofs.YtnnmalpnjlnnlaaGreat

/-
  What the laws of layer 7 share: the list of puts that comes in, which entries are looked at, the document's own order and sameness, and the calls whose answers the document fixes.
-/
namespace Go.Proofs.YtnnmalpnjlnnlaaGreat
open Go.ChangeShapes Go.WideShapes Go.ChangeAt Go.RowKit
set_option linter.unusedVariables false
set_option maxRecDepth 100000
set_option maxHeartbeats 1000000

theorem Els.at {w : World} {A : Option Addr} {x : Mm.Ent} {l : List Mm.Ent} (h : Els w A (x :: l)) : ∃ b o, A = some ⟨b, o, none⟩ ∧ b < w.heap.size ∧ ∀ (j : Nat) (y : Mm.Ent), (x :: l)[j]? = some y → w.cell? ⟨b, o + j * 4, none⟩ = some (.string (bs y.key)) ∧ w.cell? ⟨b, o + j * 4 + 1, none⟩ = some (.int .u64 (y.seq : Nat)) ∧ w.cell? ⟨b, o + j * 4 + 2, none⟩ = some (.bool y.del) ∧ w.cell? ⟨b, o + j * 4 + 3, none⟩ = some (.string (bs y.val)) := by
  obtain ⟨b, o, rfl, hb, _⟩ := h 0 x rfl
  refine ⟨b, o, rfl, hb, fun j y hy => ?_⟩
  obtain ⟨b', o', e, _, h1, h2, h3, h4⟩ := h j y hy
  cases e
  exact ⟨h1, h2, h3, h4⟩
/-- a put: an entry and its height -/
structure Pt where
  e : Mm.Ent
  h : Int
/-- a list of puts that lies in memory -/
def Puts (w : World) (A : Option Addr) (l : List Pt) : Prop := ∀ (j : Nat) (x : Pt), l[j]? = some x → ∃ b o, A = some ⟨b, o, none⟩ ∧ b < w.heap.size ∧ w.cell? ⟨b, o + j * 5, none⟩ = some (.string (bs x.e.key)) ∧ w.cell? ⟨b, o + j * 5 + 1, none⟩ = some (.int .u64 (x.e.seq : Nat)) ∧ w.cell? ⟨b, o + j * 5 + 2, none⟩ = some (.bool x.e.del) ∧ w.cell? ⟨b, o + j * 5 + 3, none⟩ = some (.string (bs x.e.val)) ∧ w.cell? ⟨b, o + j * 5 + 4, none⟩ = some (.int .i64 x.h)
theorem Puts.kept {w w' : World} {A : Option Addr} {l : List Pt} (h : Puts w A l) (k : Kept w w') : Puts w' A l := fun j x hx => by
  obtain ⟨b, o, e, hb, h0, h1, h2, h3, h4⟩ := h j x hx
  exact ⟨b, o, e, Nat.lt_of_lt_of_le hb (Below.size k), by rw [kept_cell k hb]; exact h0, by rw [kept_cell k hb]; exact h1, by rw [kept_cell k hb]; exact h2, by rw [kept_cell k hb]; exact h3, by rw [kept_cell k hb]; exact h4⟩
/-- what every put that comes in keeps to -/
def PutsOk (l : List Pt) : Prop := ∀ x ∈ l, x.e.key.length ≤ maxLen ∧ x.e.val.length ≤ maxLen ∧ (-9223372036854775808 ≤ x.h ∧ x.h ≤ 9223372036854775807) ∧ x.e.seq ≤ 18446744073709551615
theorem madd_at (b o i : Nat) : (⟨b, o, none⟩ : Addr).add i = ⟨b, o + i, none⟩ := by
  unfold Addr.add; split <;> simp_all
theorem madd_zero (a : Addr) : a.add 0 = a := by unfold Addr.add; simp
theorem maddr_at {w : World} {a : Addr} {v : Value} (h : w.cell? a = some v) : ∃ b o, a = ⟨b, o, none⟩ ∧ b < w.heap.size := by
  have hlt := World.block_lt_of_cell? w _ h
  obtain ⟨b, o, s⟩ := a
  cases s with
  | none => exact ⟨b, o, rfl, hlt⟩
  | some q =>
    unfold World.cell? at h
    split at h
    · simp at h
    · cases h
theorem mbs_self (s : ByteArray) : bs s.data.toList = s := (bs_of rfl).symm
theorem mtoList_size (s : ByteArray) : s.data.toList.length = s.size := by rw [Array.length_toList]; rfl
theorem mcellsStr : Tryz.prog.cellsOf 9 = 1 := by kernel_rfl
theorem mcellsBool : Tryz.prog.cellsOf 4 = 1 := by kernel_rfl
theorem mcellsU64 : Tryz.prog.cellsOf 32 = 1 := by kernel_rfl
theorem mcellsInt : Tryz.prog.cellsOf 3 = 1 := by kernel_rfl
section
variable {H : Type} {enc : TypeId × Value → H} {w : World}
end
end Go.Proofs.YtnnmalpnjlnnlaaGreat

/-
  What the document's own table of layer 7 (package screeref07) tells, whatever it holds: may an entry be, how many are ahead, what is got, how many bytes.
-/
namespace Go.Proofs.YtnnmalpnjlnnlaaGreat
open Go.ChangeShapes Go.WideShapes Go.ChangeAt Go.RowKit
set_option linter.unusedVariables false
set_option maxRecDepth 100000
set_option maxHeartbeats 1000000

theorem rquiet_l {P : Program} {f : FuncId} {args : Array Value} {w : World} {n : Nat} {v : Value} (h : Calls P f args (w.drewN n) fun e w' => e = .returned v ∧ w.drewN n = w') :
    Calls P f args (w.drewN n) fun e w'' => e = .returned v ∧ ∃ m, w'' = w.drewN m := h.mono fun _ _ k => ⟨k.1, n, k.2.symm⟩
theorem Els.at' {w w' : World} {A : Option Addr} {l : List Mm.Ent} (h : Els w A l) (hs : w.heap.size ≤ w'.heap.size) (k : ∀ b o, A = some ⟨b, o, none⟩ → w'.heap[b]? = w.heap[b]?) : Els w' A l := fun j x hx => by
  obtain ⟨b, o, e, hb, h0, h1, h2, h3⟩ := h j x hx
  have hk := k b o e
  have hc : ∀ i, w'.cell? ⟨b, i, none⟩ = w.cell? ⟨b, i, none⟩ := fun i => by unfold World.cell?; rw [hk]
  exact ⟨b, o, e, Nat.lt_of_lt_of_le hb hs, by rw [hc]; exact h0, by rw [hc]; exact h1, by rw [hc]; exact h2, by rw [hc]; exact h3⟩
theorem Hls.at' {w w' : World} {A : Option Addr} {l : List Nat} (h : Hls w A l) (hs : w.heap.size ≤ w'.heap.size) (k : ∀ b o, A = some ⟨b, o, none⟩ → w'.heap[b]? = w.heap[b]?) : Hls w' A l := fun j x hx => by
  obtain ⟨b, o, e, hb, h0⟩ := h j x hx
  have hk := k b o e
  have hc : ∀ i, w'.cell? ⟨b, i, none⟩ = w.cell? ⟨b, i, none⟩ := fun i => by unfold World.cell?; rw [hk]
  exact ⟨b, o, e, Nat.lt_of_lt_of_le hb hs, by rw [hc]; exact h0⟩
section
variable {w w' : World} {r : Nat} {G F : Nat → Prop} {T : List Mm.Tv} {AL AH : Option Addr} {cL cH : Nat}
end
end Go.Proofs.YtnnmalpnjlnnlaaGreat

/-
  The document's own table of layer 7: how many bytes, how long a search is.
-/
namespace Go.Proofs.YtnnmalpnjlnnlaaGreat
open Go.ChangeShapes Go.WideShapes Go.ChangeAt Go.RowKit
set_option linter.unusedVariables false
set_option maxRecDepth 100000
set_option maxHeartbeats 1000000

def rsizeTo (T : List Mm.Tv) (i : Nat) : Nat := (((Mm.ents T).take i).map Mm.sizeE).sum
theorem rsizeTo_step {T : List Mm.Tv} {i : Nat} {x : Mm.Ent} (h : (Mm.ents T)[i]? = some x) : rsizeTo T (i + 1) = rsizeTo T i + Mm.sizeE x := by
  unfold rsizeTo
  rw [List.take_add_one, h]
  simp
theorem rsizeTo_end (T : List Mm.Tv) : rsizeTo T T.length = Mm.size T := by
  unfold rsizeTo
  rw [List.take_of_length_le (by rw [Mm.ents_len]; omega)]
  simp [Mm.size, Mm.ents, Function.comp_def]
theorem rsizeTo_le {T : List Mm.Tv} (g : Mm.Good T) (i : Nat) : rsizeTo T i ≤ 200 * i := by
  induction i with
  | zero => simp [rsizeTo]
  | succ i ih =>
    cases h : (Mm.ents T)[i]? with
    | some x =>
      rw [rsizeTo_step h]
      obtain ⟨z, hz, rfl⟩ := Mm.at_ents h
      have := Mm.may_iff.1 (g.may z (List.mem_of_getElem? hz))
      unfold Mm.sizeE; omega
    | none =>
      unfold rsizeTo at *
      rw [List.take_add_one, h]
      simp only [Option.toList_none, List.append_nil]
      omega
section
variable {w w' : World} {r : Nat} {G F : Nat → Prop} {T : List Mm.Tv} {AL AH : Option Addr} {cL cH : Nat}
/-- no height between is greater -/
def Btw (hs : List Nat) (i j : Nat) (h : Nat) : Prop := ∀ (m x : Nat), i < m → m < j → hs[m]? = some x → x ≤ h
theorem stp_drop {hs : List Nat} {i h : Nat} (hi : hs[i]? = some h) (h1 : 1 ≤ h) : (Btw hs i hs.length h → Mm.stp 0 (hs.drop i) = 1 + Mm.stp 0 (hs.drop (i + 1))) ∧ (¬ Btw hs i hs.length h → Mm.stp 0 (hs.drop i) = Mm.stp 0 (hs.drop (i + 1))) := by
  have e : hs.drop i = h :: hs.drop (i + 1) := by rw [List.drop_eq_getElem?_toList_append, hi]; rfl
  have hq : (0 < h ∧ ∀ x ∈ hs.drop (i + 1), x ≤ h) ↔ Btw hs i hs.length h := by
    constructor
    · rintro ⟨_, a⟩ m x h2 h3 hx
      exact a x (List.mem_iff_getElem?.2 ⟨m - (i + 1), by rw [List.getElem?_drop, show i + 1 + (m - (i + 1)) = m by omega]; exact hx⟩)
    · intro a
      refine ⟨by omega, fun x hx => ?_⟩
      obtain ⟨m, hm⟩ := List.mem_iff_getElem?.1 hx
      rw [List.getElem?_drop] at hm
      exact a (i + 1 + m) x (by omega) (List.getElem?_eq_some_iff.1 hm).1 hm
  rw [e, Mm.stp]
  exact ⟨fun q => by rw [if_pos (hq.2 q)], fun q => by rw [if_neg (fun c => q (hq.1 c)), Nat.zero_add]⟩
theorem btw_step {hs : List Nat} {i j h x : Nat} (hij : i < j) (hx : hs[j]? = some x) : Btw hs i (j + 1) h ↔ Btw hs i j h ∧ x ≤ h := by
  constructor
  · intro a
    exact ⟨fun m y h1 h2 h3 => a m y h1 (by omega) h3, a j x hij (by omega) hx⟩
  · rintro ⟨a, b⟩ m y h1 h2 h3
    rcases Nat.lt_or_ge m j with q | q
    · exact a m y h1 q h3
    · have : m = j := by omega
      subst this
      rw [hx] at h3
      cases h3
      exact b
theorem btw_start (hs : List Nat) (i h : Nat) : Btw hs i (i + 1) h := fun m x h1 h2 _ => by omega
end
end Go.Proofs.YtnnmalpnjlnnlaaGreat

/-
  The document's own table of layer 7: entries from a key on; a put.
-/
namespace Go.Proofs.YtnnmalpnjlnnlaaGreat
open Go.ChangeShapes Go.WideShapes Go.ChangeAt Go.RowKit
set_option linter.unusedVariables false
set_option maxRecDepth 100000
set_option maxHeartbeats 2000000

@[go_sem] theorem mgeq_texts (t : TypeId) (a b : ByteArray) : binOp .geq t (.string a) (.string b) = pure (.bool !(Op.bytesLess a.toList b.toList)) := by simp [binOp, Op.stringOp]
theorem elc_one (l : List Mm.Ent) : ∀ u ∈ elc l, u.oneCell' = true := by
  induction l with
  | nil => simp [elc]
  | cons x l ih =>
    intro u hu
    rw [elc, List.mem_append] at hu
    rcases hu with hu | hu
    · simp [ecs] at hu
      rcases hu with rfl | rfl | rfl | rfl <;> rfl
    · exact ih u hu
theorem hlc_len (l : List Nat) : (hlc l).length = l.length * 1 := by simp [hlc]
theorem own_ints0 (w : World) : (w.alloc (.cells #[] 3)).ownsRow w.heap.size 3 1 (.slice (some ⟨w.heap.size, 0, none⟩) 0 0) ([] : List Nat).length (hlc []) :=
  World.ownsRow_lit (base := w.heap.size) (e := 3) (size := 1) w #[] 0 (Nat.le_refl _) (by unfold maxLen; omega) rfl
theorem from_filter {T : List Mm.Tv} (g : Mm.Good T) (K : List UInt8) : (Mm.ents T).filter (fun e => !decide (e.key < K)) = Mm.ents (Mm.Z T K 1099511627776) := by
  have e : Mm.ents T = Mm.ents (Mm.A T K 1099511627776) ++ Mm.ents (Mm.Z T K 1099511627776) := by
    conv => lhs; rw [← Mm.AZ T K 1099511627776]
    simp [Mm.ents]
  rw [e, List.filter_append]
  have h1 : (Mm.ents (Mm.A T K 1099511627776)).filter (fun e => !decide (e.key < K)) = [] := by
    rw [List.filter_eq_nil_iff]
    intro x hx
    obtain ⟨y, hy, rfl⟩ := List.mem_map.1 hx
    have h2 := Mm.A_ah y hy
    rw [g.aht K (Mm.A_sub hy)] at h2
    simp [h2]
  have h3 : (Mm.ents (Mm.Z T K 1099511627776)).filter (fun e => !decide (e.key < K)) = Mm.ents (Mm.Z T K 1099511627776) := by
    rw [List.filter_eq_self]
    intro x hx
    obtain ⟨y, hy, rfl⟩ := List.mem_map.1 hx
    have h2 := g.Z_not y hy
    rw [g.aht K (by rw [← Mm.AZ T K 1099511627776]; exact List.mem_append.2 (.inr hy))] at h2
    simp [h2]
  rw [h1, h3]; rfl
section
variable {w w' : World} {r : Nat} {G F : Nat → Prop} {T : List Mm.Tv} {AL AH : Option Addr} {cL cH : Nat}
end
end Go.Proofs.YtnnmalpnjlnnlaaGreat

