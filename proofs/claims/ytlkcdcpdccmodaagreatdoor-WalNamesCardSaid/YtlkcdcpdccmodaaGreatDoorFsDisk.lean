/-
  A disk of package fs in memory: what its blocks hold, and that it stays one while other memory, or a part of its own, is changed.
-/
import Derived.Test.YtlkcdcpdccmodaaGreatDoorFsDir
import Derived.Deep.QuietTactic
import Derived.BigQuiet
import Derived.RegionTactic
import Derived.BigRegion
import Derived.Maps.AppendAt
namespace Go.Proofs.YtlkcdcpdccmodaaGreatDoor
open Go.ChangeShapes Go.WideShapes Go.ChangeAt Go.RowKit Go.Maps
set_option linter.unusedVariables false
set_option maxRecDepth 100000
set_option maxHeartbeats 400000

/-- the blocks of K are as they were; there may be new memory -/
structure Kp (K : Nat → Prop) (w w' : World) : Prop where
  os : w'.os = w.os
  tape : w'.tape = w.tape
  output : w'.output = w.output
  size : w.heap.size ≤ w'.heap.size
  block : ∀ k, K k → w'.heap[k]? = w.heap[k]?
theorem Kp.refl (K : Nat → Prop) (w : World) : Kp K w w := ⟨rfl, rfl, rfl, Nat.le_refl _, fun _ _ => rfl⟩
theorem Kp.trans {K : Nat → Prop} {a b c : World} (h : Kp K a b) (k : Kp K b c) : Kp K a c :=
  ⟨k.os.trans h.os, k.tape.trans h.tape, k.output.trans h.output, Nat.le_trans h.size k.size, fun i hi => (k.block i hi).trans (h.block i hi)⟩
theorem Kp.mono {K K' : Nat → Prop} {a b : World} (h : Kp K a b) (hk : ∀ i, K' i → K i) : Kp K' a b := ⟨h.os, h.tape, h.output, h.size, fun i hi => h.block i (hk i hi)⟩
theorem Kp.below {K : Nat → Prop} {a b : World} {B : Nat} (h : Kp K a b) (hk : ∀ i, i < B → K i) : Below B a b := ⟨h.os, h.tape, h.output, h.size, fun i hi => h.block i (hk i hi)⟩
theorem kp_kept {K : Nat → Prop} {a b : World} (h : Kept a b) (hk : ∀ i, K i → i < a.heap.size) : Kp K a b := ⟨Below.os h, Below.tape h, Below.output h, Below.size h, fun i hi => Below.block h i (hk i hi)⟩
theorem kp_grown {K : Nat → Prop} {a b : World} {row : Option Nat} (h : a.grownBy b row) (hk : ∀ i, K i → i < a.heap.size) (hr : ∀ r, row = some r → ¬ K r) : Kp K a b :=
  ⟨h.os, h.tape, h.output, h.size, fun i hi => h.block i (hk i hi) (fun e => hr i e.symm hi)⟩
theorem grown_setCell (w : World) (b o : Nat) (v : Value) : w.grownBy (w.setCell ⟨b, o, none⟩ v) (some b) :=
  ⟨rfl, rfl, rfl, by simp [World.setCell], fun k _ hk => Below.heap_setCell _ _ _ _ (fun e => hk (by rw [e]))⟩
theorem grown_trans {a b c : World} {row : Option Nat} (h : a.grownBy b row) (k : b.grownBy c row) : a.grownBy c row := h.andThen k (fun j e => .inr e)
theorem grown_refl (w : World) (row : Option Nat) : w.grownBy w row := ⟨rfl, rfl, rfl, Nat.le_refl _, fun _ _ _ => rfl⟩
theorem grown_drewN (w : World) (n : Nat) (row : Option Nat) : w.grownBy (w.drewN n) row := ⟨rfl, rfl, rfl, Nat.le_refl _, fun _ _ _ => rfl⟩
theorem grown_kept {a b : World} (h : Kept a b) (row : Option Nat) : a.grownBy b row := ⟨Below.os h, Below.tape h, Below.output h, Below.size h, fun i hi _ => Below.block h i hi⟩
theorem kept_grown {a b : World} (h : a.grownBy b none) : Kept a b := ⟨h.os, h.tape, h.output, h.size, fun i hi => h.block i hi (by simp)⟩
theorem heap_set {w : World} {b o : Nat} {v : Value} {c : Array Value} {t : TypeId} {fr : Nat × Nat} (h : w.heap[b]? = some (.cells c t fr)) : (w.setCell ⟨b, o, none⟩ v).heap[b]? = some (.cells (c.setIfInBounds o v) t fr) := by
  simp [World.setCell, Array.getElem?_modify, h]
theorem cell_of {w : World} {b : Nat} {c : Array Value} {t : TypeId} {fr : Nat × Nat} (h : w.heap[b]? = some (.cells c t fr)) (i : Nat) {v : Value} (hv : c[i]? = some v) : w.cell? ⟨b, i, none⟩ = some v := by
  simp [World.cell?, h, hv]
theorem frozen_of {w : World} {b : Nat} {c : Array Value} {t : TypeId} (h : w.heap[b]? = some (.cells c t)) (i : Nat) : w.frozen? ⟨b, i, none⟩ = false := by
  simp [World.frozen?, h]
theorem heap_lt {w : World} {b : Nat} {o : Obj} (h : w.heap[b]? = some o) : b < w.heap.size := (Array.getElem?_eq_some_iff.1 h).1

structure Gh where
  loc : Nat → Nat
  rv : Nat → Value
  bn : Nat
  bs : Nat
  pv : Value
def chgCells (loc : Nat → Nat) (c : Fs.Chg) : List Value := [.string ⟨c.frm.toArray⟩, .string ⟨c.to.toArray⟩, ptrV loc c.made]
def pendCells (loc : Nat → Nat) (l : List Fs.Chg) : List Value := l.flatMap (chgCells loc)
def diskObj (bn bs : Nat) (pv : Value) (q f : Int) (d : Bool) : Obj := .cells #[.map (some bn), .map (some bs), pv, .int .i64 q, .int .i64 f, .bool d] 75
def fileObj (v : Value) (s : Nat) : Obj := .cells #[v, .int .i64 s] 108
structure FileIn (K : Nat → Prop) (w : World) (g : Nat) (v : Value) (f : Fs.File) : Prop where
  blk : w.heap[g]? = some (fileObj v f.sure)
  own : w.ownsRow 0 5 1 v f.bytes.length (cellsOf f.bytes)
  nk : ¬ K g
  nr : ∀ r, v.ownBlock = some r → ¬ K r
structure IsDisk (K : Nat → Prop) (w : World) (p : Nat) (G : Gh) (m : Fs.Dsk) : Prop where
  good : Fs.Good m
  blk : w.heap[p]? = some (diskObj G.bn G.bs G.pv m.quota m.fuse m.dead)
  names : OwnsDir w G.loc G.bn m.names
  sure : OwnsDir w G.loc G.bs m.sure
  pend : w.ownsRow 0 91 3 G.pv m.pend.length (pendCells G.loc m.pend)
  files : ∀ i, i < m.files.length → FileIn K w (G.loc i) (G.rv i) (Fs.fileAt m i)
  inj : ∀ i j, i < m.files.length → j < m.files.length → G.loc i = G.loc j → i = j
  rows : ∀ i j r, i < m.files.length → j < m.files.length → (G.rv i).ownBlock = some r → (G.rv j).ownBlock = some r → i = j
  ne : G.bn ≠ G.bs
  np : ¬ K p
  nbn : ¬ K G.bn
  nbs : ¬ K G.bs
  npv : ∀ r, G.pv.ownBlock = some r → ¬ K r
  lt : ∀ b, K b → b < w.heap.size
def Dk (K : Nat → Prop) (w : World) (p : Nat) (m : Fs.Dsk) : Prop := ∃ G, IsDisk K w p G m

theorem own_blk {w : World} {base : Nat} {e : TypeId} {size : Nat} {v : Value} {n : Nat} {xs : List Value} (h : w.ownsRow base e size v n xs) {r : Nat} (hr : v.ownBlock = some r) : ∃ cur, w.heap[r]? = some (.cells cur e) := by
  rcases h.2 with ⟨rfl, _⟩ | ⟨g, cap, cur, rfl, _, hb, _⟩
  · cases hr
  · simp [Value.ownBlock] at hr; subst hr; exact ⟨cur, hb⟩
theorem own_same {w w' : World} {base : Nat} {e : TypeId} {size : Nat} {v : Value} {n : Nat} {xs : List Value} (h : w.ownsRow base e size v n xs) (hs : ∀ r, v.ownBlock = some r → w'.heap[r]? = w.heap[r]?) : w'.ownsRow base e size v n xs := by
  obtain ⟨h1, h2⟩ := h
  refine ⟨h1, ?_⟩
  rcases h2 with h2 | ⟨g, cap, cur, rfl, hg, hb, r⟩
  · exact .inl h2
  · exact .inr ⟨g, cap, cur, rfl, hg, (hs g rfl).trans hb, r⟩
section
variable {K : Nat → Prop} {w w' : World} {p : Nat} {G : Gh} {m : Fs.Dsk}
/-- a block that is the disk's own -/
def Mine (p : Nat) (G : Gh) (n : Nat) (b : Nat) : Prop := b = p ∨ b = G.bn ∨ b = G.bs ∨ G.pv.ownBlock = some b ∨ ∃ i, i < n ∧ (b = G.loc i ∨ (G.rv i).ownBlock = some b)
theorem IsDisk.mine_lt (h : IsDisk K w p G m) {b : Nat} (hb : Mine p G m.files.length b) : b < w.heap.size := by
  rcases hb with rfl | rfl | rfl | hb | ⟨i, hi, rfl | hb⟩
  · exact heap_lt h.blk
  · exact h.names.lt
  · exact h.sure.lt
  · exact (h.pend.lt _ hb).2
  · exact heap_lt (h.files i hi).blk
  · exact ((h.files i hi).own.lt _ hb).2
theorem IsDisk.mine_nk (h : IsDisk K w p G m) {b : Nat} (hb : Mine p G m.files.length b) : ¬ K b := by
  rcases hb with rfl | rfl | rfl | hb | ⟨i, hi, rfl | hb⟩
  · exact h.np
  · exact h.nbn
  · exact h.nbs
  · exact h.npv _ hb
  · exact (h.files i hi).nk
  · exact (h.files i hi).nr _ hb
theorem IsDisk.stay {K' : Nat → Prop} (h : IsDisk K w p G m) (hs : ∀ b, K' b → b < w'.heap.size) (hb : ∀ b, Mine p G m.files.length b → w'.heap[b]? = w.heap[b]? ∧ ¬ K' b) : IsDisk K' w' p G m :=
  { good := h.good
    blk := (hb p (.inl rfl)).1.trans h.blk
    names := h.names.same (hb _ (.inr (.inl rfl))).1
    sure := h.sure.same (hb _ (.inr (.inr (.inl rfl)))).1
    pend := own_same h.pend (fun r hr => (hb r (.inr (.inr (.inr (.inl hr))))).1)
    files := fun i hi => ⟨(hb _ (.inr (.inr (.inr (.inr ⟨i, hi, .inl rfl⟩))))).1.trans (h.files i hi).blk, own_same (h.files i hi).own (fun r hr => (hb r (.inr (.inr (.inr (.inr ⟨i, hi, .inr hr⟩))))).1), (hb _ (.inr (.inr (.inr (.inr ⟨i, hi, .inl rfl⟩))))).2, fun r hr => (hb r (.inr (.inr (.inr (.inr ⟨i, hi, .inr hr⟩))))).2⟩
    inj := h.inj
    rows := h.rows
    ne := h.ne
    np := (hb p (.inl rfl)).2
    nbn := (hb _ (.inr (.inl rfl))).2
    nbs := (hb _ (.inr (.inr (.inl rfl)))).2
    npv := fun r hr => (hb r (.inr (.inr (.inr (.inl hr))))).2
    lt := hs }
theorem IsDisk.kept (h : IsDisk K w p G m) (hk : Kept w w') : IsDisk K w' p G m :=
  h.stay (fun b hb => Nat.lt_of_lt_of_le (h.lt b hb) (Below.size hk)) (fun b hb => ⟨Below.block hk b (h.mine_lt hb), h.mine_nk hb⟩)
/-- what is new since w may be kept as well -/
theorem IsDisk.wide (h : IsDisk K w p G m) (hk : Kept w w') : IsDisk (fun b => K b ∨ (w.heap.size ≤ b ∧ b < w'.heap.size)) w' p G m :=
  h.stay (fun b hb => by rcases hb with hb | hb; exact Nat.lt_of_lt_of_le (h.lt b hb) (Below.size hk); exact hb.2) (fun b hb => ⟨Below.block hk b (h.mine_lt hb), fun h' => by
    rcases h' with h' | h'
    · exact h.mine_nk hb h'
    · have := h.mine_lt hb; omega⟩)
theorem IsDisk.narrow {K' : Nat → Prop} (h : IsDisk K w p G m) (hk : ∀ b, K' b → K b) : IsDisk K' w p G m :=
  h.stay (fun b hb => h.lt b (hk b hb)) (fun b hb => ⟨rfl, fun h' => h.mine_nk hb (hk b h')⟩)
/-- blocks of one kind aren't those of another one -/
theorem IsDisk.p_bn (h : IsDisk K w p G m) : G.bn ≠ p := fun e => by obtain ⟨es, c, hb⟩ := h.names.isMap; rw [e, h.blk] at hb; cases hb
theorem IsDisk.p_bs (h : IsDisk K w p G m) : G.bs ≠ p := fun e => by obtain ⟨es, c, hb⟩ := h.sure.isMap; rw [e, h.blk] at hb; cases hb
theorem IsDisk.p_pv (h : IsDisk K w p G m) {r : Nat} (hr : G.pv.ownBlock = some r) : r ≠ p := fun e => by obtain ⟨c, hb⟩ := own_blk h.pend hr; rw [e, h.blk] at hb; cases hb
theorem IsDisk.p_loc (h : IsDisk K w p G m) {i : Nat} (hi : i < m.files.length) : G.loc i ≠ p := fun e => by have hb := (h.files i hi).blk; rw [e, h.blk] at hb; simp [diskObj, fileObj] at hb
theorem IsDisk.p_rv (h : IsDisk K w p G m) {i r : Nat} (hi : i < m.files.length) (hr : (G.rv i).ownBlock = some r) : r ≠ p := fun e => by obtain ⟨c, hb⟩ := own_blk (h.files i hi).own hr; rw [e, h.blk] at hb; cases hb
theorem IsDisk.l_bn (h : IsDisk K w p G m) {i : Nat} (hi : i < m.files.length) : G.bn ≠ G.loc i := fun e => by obtain ⟨es, c, hb⟩ := h.names.isMap; rw [e, (h.files i hi).blk] at hb; cases hb
theorem IsDisk.l_bs (h : IsDisk K w p G m) {i : Nat} (hi : i < m.files.length) : G.bs ≠ G.loc i := fun e => by obtain ⟨es, c, hb⟩ := h.sure.isMap; rw [e, (h.files i hi).blk] at hb; cases hb
theorem IsDisk.l_pv (h : IsDisk K w p G m) {i r : Nat} (hi : i < m.files.length) (hr : G.pv.ownBlock = some r) : r ≠ G.loc i := fun e => by obtain ⟨c, hb⟩ := own_blk h.pend hr; rw [e, (h.files i hi).blk] at hb; cases hb
theorem IsDisk.l_rv (h : IsDisk K w p G m) {i j r : Nat} (hi : i < m.files.length) (hj : j < m.files.length) (hr : (G.rv j).ownBlock = some r) : r ≠ G.loc i := fun e => by obtain ⟨c, hb⟩ := own_blk (h.files j hj).own hr; rw [e, (h.files i hi).blk] at hb; cases hb
theorem IsDisk.r_bn (h : IsDisk K w p G m) {j r : Nat} (hj : j < m.files.length) (hr : (G.rv j).ownBlock = some r) : r ≠ G.bn := fun e => by obtain ⟨c, hb⟩ := own_blk (h.files j hj).own hr; obtain ⟨es, c', hb'⟩ := h.names.isMap; rw [e, hb'] at hb; cases hb
theorem IsDisk.r_bs (h : IsDisk K w p G m) {j r : Nat} (hj : j < m.files.length) (hr : (G.rv j).ownBlock = some r) : r ≠ G.bs := fun e => by obtain ⟨c, hb⟩ := own_blk (h.files j hj).own hr; obtain ⟨es, c', hb'⟩ := h.sure.isMap; rw [e, hb'] at hb; cases hb
theorem IsDisk.v_bn (h : IsDisk K w p G m) {r : Nat} (hr : G.pv.ownBlock = some r) : r ≠ G.bn := fun e => by obtain ⟨c, hb⟩ := own_blk h.pend hr; obtain ⟨es, c', hb'⟩ := h.names.isMap; rw [e, hb'] at hb; cases hb
theorem IsDisk.v_bs (h : IsDisk K w p G m) {r : Nat} (hr : G.pv.ownBlock = some r) : r ≠ G.bs := fun e => by obtain ⟨c, hb⟩ := own_blk h.pend hr; obtain ⟨es, c', hb'⟩ := h.sure.isMap; rw [e, hb'] at hb; cases hb
theorem IsDisk.r_pv (h : IsDisk K w p G m) {j r : Nat} (hj : j < m.files.length) (hr : (G.rv j).ownBlock = some r) : G.pv.ownBlock ≠ some r := fun hv => by obtain ⟨c, hb⟩ := own_blk (h.files j hj).own hr; obtain ⟨c', hb'⟩ := own_blk h.pend hv; rw [hb'] at hb; cases hb
/-- the disk's own block is written: quota, fuse, whether it is dead -/
theorem IsDisk.setDisk {q f : Int} {d : Bool} (h : IsDisk K w p G m) (hg : w.grownBy w' (some p)) (hb : w'.heap[p]? = some (diskObj G.bn G.bs G.pv q f d)) (hgood : Fs.Good { m with quota := q, fuse := f, dead := d }) : IsDisk K w' p G { m with quota := q, fuse := f, dead := d } := by
  have o : ∀ b, b < w.heap.size → b ≠ p → w'.heap[b]? = w.heap[b]? := fun b hb hne => hg.block b hb (fun e => hne (by simpa using e))
  exact
  { good := hgood
    blk := hb
    names := h.names.same (o _ h.names.lt h.p_bn)
    sure := h.sure.same (o _ h.sure.lt h.p_bs)
    pend := own_same h.pend (fun r hr => o r (h.pend.lt r hr).2 (h.p_pv hr))
    files := fun i hi => ⟨(o _ (heap_lt (h.files i hi).blk) (h.p_loc hi)).trans (h.files i hi).blk, own_same (h.files i hi).own (fun r hr => o r ((h.files i hi).own.lt r hr).2 (h.p_rv hi hr)), (h.files i hi).nk, (h.files i hi).nr⟩
    inj := h.inj
    rows := h.rows
    ne := h.ne
    np := h.np
    nbn := h.nbn
    nbs := h.nbs
    npv := h.npv
    lt := fun b hb => Nat.lt_of_lt_of_le (h.lt b hb) hg.size }
theorem IsDisk.kp (h : IsDisk K w p G m) (hg : w.grownBy w' (some p)) : Kp K w w' := kp_grown hg h.lt (fun r hr => by cases hr; exact h.np)
end
theorem fileAt_modify (m : Fs.Dsk) (i j : Nat) (g : Fs.File → Fs.File) (hj : j < m.files.length) : Fs.fileAt { m with files := m.files.modify i g } j = if i = j then g (Fs.fileAt m j) else Fs.fileAt m j := by
  unfold Fs.fileAt
  show ((m.files.modify i g)[j]?).getD Fs.noFile = _
  rw [List.getElem?_modify]
  have := List.getElem?_eq_getElem hj
  rw [this]
  split <;> simp_all
def upd {α : Type} (f : Nat → α) (i : Nat) (x : α) : Nat → α := fun j => if j = i then x else f j
theorem upd_same {α : Type} (f : Nat → α) (i : Nat) (x : α) : upd f i x i = x := by simp [upd]
theorem upd_other {α : Type} (f : Nat → α) {i j : Nat} (x : α) (h : j ≠ i) : upd f i x j = f j := by simp [upd, h]
section
variable {K : Nat → Prop} {w w' : World} {p : Nat} {G : Gh} {m : Fs.Dsk}
/-- a file is written: its own block, and its row or a new one -/
theorem IsDisk.setFile {i : Nat} {g : Fs.File → Fs.File} {v' : Value} (h : IsDisk K w p G m) (hi : i < m.files.length) (hs : w.heap.size ≤ w'.heap.size)
    (ho : ∀ b, b < w.heap.size → b ≠ G.loc i → (G.rv i).ownBlock ≠ some b → w'.heap[b]? = w.heap[b]?)
    (hb : w'.heap[G.loc i]? = some (fileObj v' (g (Fs.fileAt m i)).sure)) (hown : w'.ownsRow 0 5 1 v' (g (Fs.fileAt m i)).bytes.length (cellsOf (g (Fs.fileAt m i)).bytes))
    (hrow : ∀ r, v'.ownBlock = some r → (G.rv i).ownBlock = some r ∨ w.heap.size ≤ r) (hgood : Fs.Good { m with files := m.files.modify i g }) :
    IsDisk K w' p { G with rv := upd G.rv i v' } { m with files := m.files.modify i g } := by
  have hlen : ({ m with files := m.files.modify i g } : Fs.Dsk).files.length = m.files.length := Fs.modify_len _ _ _
  have nr : ∀ r, v'.ownBlock = some r → ¬ K r := fun r hr hk => by
    rcases hrow r hr with h1 | h1
    · exact (h.files i hi).nr r h1 hk
    · have := h.lt r hk; omega
  exact
  { good := hgood
    blk := (ho p (heap_lt h.blk) (fun e => h.p_loc hi e.symm) (fun e => h.p_rv hi e rfl)).trans h.blk
    names := h.names.same (ho _ h.names.lt (h.l_bn hi) (fun e => h.r_bn hi e rfl))
    sure := h.sure.same (ho _ h.sure.lt (h.l_bs hi) (fun e => h.r_bs hi e rfl))
    pend := own_same h.pend (fun r hr => ho r (h.pend.lt r hr).2 (h.l_pv hi hr) (fun e => h.r_pv hi e hr))
    files := fun j hj => by
      rw [hlen] at hj
      rw [fileAt_modify _ _ _ _ hj]
      by_cases e : i = j
      · subst e
        rw [if_pos rfl]
        show FileIn K w' (G.loc i) (upd G.rv i v' i) _
        rw [upd_same]
        exact ⟨hb, hown, (h.files i hi).nk, nr⟩
      · rw [if_neg e]
        show FileIn K w' (G.loc j) (upd G.rv i v' j) _
        rw [upd_other _ _ (fun e' => e e'.symm)]
        exact ⟨(ho _ (heap_lt (h.files j hj).blk) (fun e' => e (h.inj i j hi hj e'.symm)) (fun e' => h.l_rv hj hi e' rfl)).trans (h.files j hj).blk, own_same (h.files j hj).own (fun r hr => ho r ((h.files j hj).own.lt r hr).2 (h.l_rv hi hj hr) (fun e' => e (h.rows i j r hi hj e' hr))), (h.files j hj).nk, (h.files j hj).nr⟩
    inj := fun a b ha hb' => h.inj a b (by rw [hlen] at ha; exact ha) (by rw [hlen] at hb'; exact hb')
    rows := fun a b r ha hb' h1 h2 => by
      rw [hlen] at ha hb'
      by_cases ea : a = i <;> by_cases eb : b = i
      · rw [ea, eb]
      · subst ea
        have h1' : v'.ownBlock = some r := by rw [← upd_same G.rv a v']; exact h1
        have h2' : (G.rv b).ownBlock = some r := by rw [← upd_other G.rv v' eb]; exact h2
        rcases hrow r h1' with h3 | h3
        · exact h.rows a b r ha hb' h3 h2'
        · have := ((h.files b hb').own.lt r h2').2; omega
      · subst eb
        have h2' : v'.ownBlock = some r := by rw [← upd_same G.rv b v']; exact h2
        have h1' : (G.rv a).ownBlock = some r := by rw [← upd_other G.rv v' ea]; exact h1
        rcases hrow r h2' with h3 | h3
        · exact h.rows a b r ha hb' h1' h3
        · have := ((h.files a ha).own.lt r h1').2; omega
      · exact h.rows a b r ha hb' (by rw [← upd_other G.rv v' ea]; exact h1) (by rw [← upd_other G.rv v' eb]; exact h2)
    ne := h.ne
    np := h.np
    nbn := h.nbn
    nbs := h.nbs
    npv := h.npv
    lt := fun b hb' => Nat.lt_of_lt_of_le (h.lt b hb') hs }
theorem IsDisk.kpFile {i : Nat} (h : IsDisk K w p G m) (hi : i < m.files.length) (hos : w'.os = w.os) (htp : w'.tape = w.tape) (hout : w'.output = w.output) (hs : w.heap.size ≤ w'.heap.size)
    (ho : ∀ b, b < w.heap.size → b ≠ G.loc i → (G.rv i).ownBlock ≠ some b → w'.heap[b]? = w.heap[b]?) : Kp K w w' :=
  ⟨hos, htp, hout, hs, fun b hb => ho b (h.lt b hb) (fun e => (h.files i hi).nk (e ▸ hb)) (fun e => (h.files i hi).nr b e hb)⟩
end
end Go.Proofs.YtlkcdcpdccmodaaGreatDoor
