/-
  A table of package mem in memory: an entry and its links, level by level; and that it stays one while other memory is changed.
-/
import Derived.Test.YtpbhbgoaaephgaaMemMath
import Derived.Test.YtpbhbgoaaephgaaNumRef
import Derived.Deep.QuietTactic
import Derived.BigQuiet
import Derived.RegionTactic
import Derived.BigRegion
namespace Go.Proofs.Ytpbhbgoaaephgaa
open Go.ChangeShapes Go.WideShapes Go.ChangeAt Go.RowKit
set_option linter.unusedVariables false
set_option maxRecDepth 100000
set_option maxHeartbeats 400000

/-- the blocks that aren't F's are as they were; there may be new memory -/
structure Ex (F : Nat → Prop) (w w' : World) : Prop where
  os : w'.os = w.os
  tape : w'.tape = w.tape
  output : w'.output = w.output
  size : w.heap.size ≤ w'.heap.size
  block : ∀ k, k < w.heap.size → ¬ F k → w'.heap[k]? = w.heap[k]?
theorem Ex.refl (F : Nat → Prop) (w : World) : Ex F w w := ⟨rfl, rfl, rfl, Nat.le_refl _, fun _ _ _ => rfl⟩
theorem Ex.trans {F F' : Nat → Prop} {a b c : World} (h : Ex F a b) (k : Ex F' b c) (hf : ∀ i, i < a.heap.size → F' i → F i) : Ex F a c :=
  ⟨k.os.trans h.os, k.tape.trans h.tape, k.output.trans h.output, Nat.le_trans h.size k.size, fun i hi hn => (k.block i (Nat.lt_of_lt_of_le hi h.size) (fun e => hn (hf i hi e))).trans (h.block i hi hn)⟩
theorem Ex.mono {F F' : Nat → Prop} {a b : World} (h : Ex F a b) (hf : ∀ i, F i → F' i) : Ex F' a b := ⟨h.os, h.tape, h.output, h.size, fun i hi hn => h.block i hi (fun e => hn (hf i e))⟩
theorem ex_kept {F : Nat → Prop} {a b : World} (h : Kept a b) : Ex F a b := ⟨Below.os h, Below.tape h, Below.output h, Below.size h, fun i hi _ => Below.block h i hi⟩
theorem Ex.below {F : Nat → Prop} {a b : World} {B : Nat} (h : Ex F a b) (hB : B ≤ a.heap.size) (hf : ∀ i, F i → B ≤ i) : Below B a b :=
  ⟨h.os, h.tape, h.output, h.size, fun i hi => h.block i (Nat.lt_of_lt_of_le hi hB) (fun e => by have := hf i e; omega)⟩

def entV (x : Mm.Ent) : Value := .agg #[.string (bs x.key), .int .u64 (x.seq : Nat), .bool x.del, .string (bs x.val)]
def pv : Option Nat → Value
  | none => .pointer none
  | some b => .pointer (some ⟨b, 0, none⟩)
def nodeObj (x : Mm.Nd) (g : Nat → Option Nat) : Obj := .cells #[.string (bs x.e.key), .int .u64 (x.e.seq : Nat), .bool x.e.del, .string (bs x.e.val), .int .i64 (x.h : Nat), pv (g 0), pv (g 1), pv (g 2), pv (g 3), pv (g 4), pv (g 5), pv (g 6), pv (g 7)] 81
def tabObj (g : Nat → Option Nat) (c s : Nat) : Obj := .cells #[.string (bs []), .int .u64 0, .bool false, .string (bs []), .int .i64 0, pv (g 0), pv (g 1), pv (g 2), pv (g 3), pv (g 4), pv (g 5), pv (g 6), pv (g 7), .int .i64 (c : Nat), .int .i64 (s : Nat)] 83
def eightObj (q : Nat → Value) : Obj := .cells #[q 0, q 1, q 2, q 3, q 4, q 5, q 6, q 7] 79
structure Nodes (w : World) (p : Nat) (N : List Mm.Nd) (g : Nat → Nat → Option Nat) (c s : Nat) : Prop where
  tab : w.heap[p]? = some (tabObj (g p) c s)
  node : ∀ x ∈ N, w.heap[x.b]? = some (nodeObj x (g x.b))
structure IsTab (w : World) (p : Nat) (N : List Mm.Nd) (g : Nat → Nat → Option Nat) : Prop where
  mem : Nodes w p N g N.length (Mm.size (Mm.view N))
  chain : ∀ j, j < 8 → Mm.Ch (fun b => g b j) p (Mm.blks (Mm.fl j N))
  nodup : (p :: Mm.blks N).Nodup
  good : Mm.Good (Mm.view N)
  few : N.length ≤ 1000
theorem Nodes.same {w w' : World} {p : Nat} {N : List Mm.Nd} {g : Nat → Nat → Option Nat} {c s : Nat} (h : Nodes w p N g c s) (k : ∀ b, b ∈ p :: Mm.blks N → w'.heap[b]? = w.heap[b]?) : Nodes w' p N g c s :=
  ⟨(k p List.mem_cons_self).trans h.tab, fun x hx => (k x.b (List.mem_cons_of_mem _ (List.mem_map.2 ⟨x, hx, rfl⟩))).trans (h.node x hx)⟩
theorem mheap_lt {w : World} {b : Nat} {o : Obj} (h : w.heap[b]? = some o) : b < w.heap.size := (Array.getElem?_eq_some_iff.1 h).1
theorem Nodes.lt {w : World} {p : Nat} {N : List Mm.Nd} {g : Nat → Nat → Option Nat} {c s : Nat} (h : Nodes w p N g c s) {b : Nat} (hb : b ∈ p :: Mm.blks N) : b < w.heap.size := by
  rcases List.mem_cons.1 hb with rfl | hb
  · exact mheap_lt h.tab
  · obtain ⟨x, hx, rfl⟩ := List.mem_map.1 hb
    exact mheap_lt (h.node x hx)
theorem Nodes.kept {w w' : World} {p : Nat} {N : List Mm.Nd} {g : Nat → Nat → Option Nat} {c s : Nat} (h : Nodes w p N g c s) (k : Kept w w') : Nodes w' p N g c s :=
  h.same fun b hb => Below.block k b (h.lt hb)
theorem IsTab.kept {w w' : World} {p : Nat} {N : List Mm.Nd} {g : Nat → Nat → Option Nat} (h : IsTab w p N g) (k : Kept w w') : IsTab w' p N g := ⟨h.mem.kept k, h.chain, h.nodup, h.good, h.few⟩
theorem IsTab.same {w w' : World} {p : Nat} {N : List Mm.Nd} {g : Nat → Nat → Option Nat} (h : IsTab w p N g) (k : ∀ b, b ∈ p :: Mm.blks N → w'.heap[b]? = w.heap[b]?) : IsTab w' p N g := ⟨h.mem.same k, h.chain, h.nodup, h.good, h.few⟩
theorem mcell {w : World} {b : Nat} {c : Array Value} {t : TypeId} {fr : Nat × Nat} (h : w.heap[b]? = some (.cells c t fr)) (i : Nat) {v : Value} (hv : c[i]? = some v) : w.cell? ⟨b, i, none⟩ = some v := by
  simp [World.cell?, h, hv]
theorem mfrozen {w : World} {b : Nat} {c : Array Value} {t : TypeId} (h : w.heap[b]? = some (.cells c t)) (i : Nat) : w.frozen? ⟨b, i, none⟩ = false := by
  simp [World.frozen?, h]
theorem malloc_new (w : World) (o : Obj) : (w.alloc o).heap[w.heap.size]? = some o := heap_alloc_new w o
theorem malloc_old (w : World) (o : Obj) {k : Nat} (h : k < w.heap.size) : (w.alloc o).heap[k]? = w.heap[k]? := Below.block ((Kept.refl w).alloc o) k h
theorem malloc_size (w : World) (o : Obj) : (w.alloc o).heap.size = w.heap.size + 1 := World.size_alloc ..
theorem eight {P : Nat → Prop} (h0 : P 0) (h1 : P 1) (h2 : P 2) (h3 : P 3) (h4 : P 4) (h5 : P 5) (h6 : P 6) (h7 : P 7) : ∀ j, j < 8 → P j := fun j hj => by
  match j, hj with
  | 0, _ => exact h0
  | 1, _ => exact h1
  | 2, _ => exact h2
  | 3, _ => exact h3
  | 4, _ => exact h4
  | 5, _ => exact h5
  | 6, _ => exact h6
  | 7, _ => exact h7
/-- the link of a block at a level -/
theorem Nodes.link {w : World} {p : Nat} {N : List Mm.Nd} {g : Nat → Nat → Option Nat} {c s : Nat} (h : Nodes w p N g c s) {b : Nat} (hb : b ∈ p :: Mm.blks N) {j : Nat} (hj : j < 8) : w.cell? ⟨b, 5 + j, none⟩ = some (pv (g b j)) := by
  rcases List.mem_cons.1 hb with rfl | hb
  · revert j
    have ht := h.tab
    exact eight (mcell ht _ rfl) (mcell ht _ rfl) (mcell ht _ rfl) (mcell ht _ rfl) (mcell ht _ rfl) (mcell ht _ rfl) (mcell ht _ rfl) (mcell ht _ rfl)
  · obtain ⟨x, hx, rfl⟩ := List.mem_map.1 hb
    revert j
    have ht := h.node x hx
    exact eight (mcell ht _ rfl) (mcell ht _ rfl) (mcell ht _ rfl) (mcell ht _ rfl) (mcell ht _ rfl) (mcell ht _ rfl) (mcell ht _ rfl) (mcell ht _ rfl)
theorem mbs_eq (a b : List UInt8) : ((bs a).toList == (bs b).toList) = decide (a = b) := by
  rw [Lib.toList_data, Lib.toList_data, bs_data, bs_data]
  by_cases h : a = b
  · rw [decide_eq_true h, h]; simp
  · rw [decide_eq_false h]; simpa using h
theorem mbs_less (a b : List UInt8) : Op.bytesLess (bs a).toList (bs b).toList = decide (a < b) := by
  rw [Lib.toList_data, Lib.toList_data, bs_data, bs_data, Mm.less_eq]
theorem mbs_size (l : List UInt8) : (bs l).size = l.length := by simp [bs, ByteArray.size]
/-- an entry's cells -/
theorem Nodes.ent {w : World} {p : Nat} {N : List Mm.Nd} {g : Nat → Nat → Option Nat} {c s : Nat} (h : Nodes w p N g c s) {x : Mm.Nd} (hx : x ∈ N) : w.cell? ⟨x.b, 0, none⟩ = some (.string (bs x.e.key)) ∧ w.cell? ⟨x.b, 1, none⟩ = some (.int .u64 (x.e.seq : Nat)) ∧ w.cell? ⟨x.b, 2, none⟩ = some (.bool x.e.del) ∧ w.cell? ⟨x.b, 3, none⟩ = some (.string (bs x.e.val)) ∧ w.cell? ⟨x.b, 4, none⟩ = some (.int .i64 (x.h : Nat)) := by
  have ht := h.node x hx
  exact ⟨mcell ht _ rfl, mcell ht _ rfl, mcell ht _ rfl, mcell ht _ rfl, mcell ht _ rfl⟩
theorem fl_sub {j : Nat} {N : List Mm.Nd} {x : Mm.Nd} (h : x ∈ Mm.fl j N) : x ∈ N := (List.mem_filter.1 h).1
theorem lst_in {p : Nat} {u N : List Mm.Nd} (h : ∀ x ∈ u, x ∈ N) : Mm.lst p (Mm.blks u) ∈ p :: Mm.blks N := by
  rcases Mm.lst_mem p (Mm.blks u) with e | e
  · rw [e]; exact List.mem_cons_self
  · obtain ⟨x, hx, e2⟩ := List.mem_map.1 e
    exact List.mem_cons_of_mem _ (List.mem_map.2 ⟨x, h x hx, e2⟩)
/-- where the link of the last one of u leads at a level -/
theorem IsTab.next {w : World} {p : Nat} {N : List Mm.Nd} {g : Nat → Nat → Option Nat} (h : IsTab w p N g) {j : Nat} (hj : j < 8) {u v : List Mm.Nd} (hu : Mm.fl j N = u ++ v) : g (Mm.lst p (Mm.blks u)) j = v.head?.map Mm.Nd.b := by
  have hc := h.chain j hj
  rw [hu, Mm.blks_app] at hc
  have := hc.at
  cases v with
  | nil => exact this
  | cons x v => exact this.1
theorem nA_ah {N : List Mm.Nd} {k : List UInt8} {s : Nat} {x : Mm.Nd} (h : x ∈ Mm.nA N k s) : x.e.ah k s = true := by
  have : x.v ∈ Mm.A (Mm.view N) k s := by rw [← Mm.view_A]; exact List.mem_map.2 ⟨x, h, rfl⟩
  exact Mm.A_ah _ this
theorem nZ_not {N : List Mm.Nd} (g : Mm.Good (Mm.view N)) {k : List UInt8} {s : Nat} {x : Mm.Nd} (h : x ∈ Mm.nZ N k s) : x.e.ah k s = false := by
  have : x.v ∈ Mm.Z (Mm.view N) k s := by rw [← Mm.view_Z]; exact List.mem_map.2 ⟨x, h, rfl⟩
  exact g.Z_not _ this
theorem ahead_any (x : Mm.Ent) (k : List UInt8) (s : Nat) (w : World) :
    Calls Try.prog 75 #[entV x, .string (bs k), .int .u64 (s : Nat)] w fun e w' => e = .returned (.bool (x.ah k s)) ∧ Kept w w' := by
  unfold entV Mm.Ent.ah Mm.ahd
  by_cases h : x.key = k
  · have h1 : ((bs x.key).toList == (bs k).toList) = true := by rw [mbs_eq]; exact decide_eq_true h
    rw [if_pos h]
    clear h
    go_enter Try.func75, Try.ntmps75
    go_wp2_with fail
    go_ret
    exact ⟨ret_bool (by simp), (Kept.refl _).alloc _⟩
  · have h1 : ((bs x.key).toList == (bs k).toList) = false := by rw [mbs_eq]; exact decide_eq_false h
    have h2 := mbs_less x.key k
    rw [if_neg h, ← h2]
    clear h h2
    go_enter Try.func75, Try.ntmps75
    go_wp2_with fail
    go_ret
    exact ⟨rfl, (Kept.refl _).alloc _⟩
end Go.Proofs.Ytpbhbgoaaephgaa
