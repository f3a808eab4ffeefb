/-
  A disk, its logs and lists of texts that a statement of layer 6 keeps, as one state.
-/
import Derived.Test.YtlkcdcpdccmodaaGreatDoorWalAwake
namespace Go.Proofs.YtlkcdcpdccmodaaGreatDoor
open Go.ChangeShapes Go.WideShapes Go.ChangeAt Go.RowKit
set_option linter.unusedVariables false
set_option maxRecDepth 100000
set_option maxHeartbeats 1000000

def Ap (a b : Value × List (List UInt8)) : Prop := ∀ r, a.1.ownBlock = some r → b.1.ownBlock ≠ some r
structure St (w : World) (p : Nat) (m : Fs.Dsk) (logs : List (Nat × Wl.Lg)) (rows : List (Value × List (List UInt8))) (W : World) : Prop where
  disk : ∃ K G, (∀ x, x < w.heap.size → K x) ∧ (∀ q ∈ logs, K q.1) ∧ (∀ q ∈ rows, ∀ r, q.1.ownBlock = some r → K r) ∧ IsDisk K W p G m
  log : ∀ q ∈ logs, IsLog W q.1 p q.2 ∧ w.heap.size ≤ q.1
  row : ∀ q ∈ rows, W.ownsRow w.heap.size 9 1 q.1 q.2.length (txc q.2)
  keep : Kp (fun x => x < w.heap.size) w W
  vars : Vars w
  logsA : logs.Pairwise (fun a b => a.1 ≠ b.1)
  rowsA : rows.Pairwise Ap
section
variable {w W W' : World} {p : Nat} {m M : Fs.Dsk} {logs : List (Nat × Wl.Lg)} {rows : List (Value × List (List UInt8))}
theorem St.good (h : St w p m logs rows W) : Fs.Good m := by obtain ⟨K, G, _, _, _, hd⟩ := h.disk; exact hd.good
theorem St.var (h : St w p m logs rows W) : Vars W := h.vars.kp h.keep (fun b hb => h.vars.lt hb)
theorem St.kept (h : St w p m logs rows W) (k : Kept W W') : St w p m logs rows W' := by
  obtain ⟨K, G, h1, h2, h3, hd⟩ := h.disk
  exact ⟨⟨K, G, h1, h2, h3, hd.kept k⟩, fun q hq => ⟨(h.log q hq).1.kept k, (h.log q hq).2⟩, fun q hq => own_kept (h.row q hq) k, h.keep.trans (kp_kept k (fun b hb => Nat.lt_of_lt_of_le hb h.keep.size)), h.vars, h.logsA, h.rowsA⟩
/-- the disk's own functions -/
theorem St.op {f : FuncId} {args : Array Value} {v : Value} (h : St w p m logs rows W) (hc : ∀ K G, IsDisk K W p G m → Calls Tryz.prog f args W fun e w' => e = .returned v ∧ Dk K w' p M ∧ Kp K W w') :
    Calls Tryz.prog f args W fun e w' => e = .returned v ∧ St w p M logs rows w' := by
  obtain ⟨K, G, h1, h2, h3, hd⟩ := h.disk
  refine (hc K G hd).mono fun e w' ⟨he, ⟨G', hd'⟩, k⟩ => ⟨he, ⟨K, G', h1, h2, h3, hd'⟩, fun q hq => ⟨(h.log q hq).1.kp k (h2 q hq), (h.log q hq).2⟩, fun q hq => own_same (h.row q hq) (fun r hr => k.block r (h3 q hq r hr)), h.keep.trans (k.mono h1), h.vars, h.logsA, h.rowsA⟩
/-- what only looks at the disk -/
theorem St.look {f : FuncId} {args : Array Value} {R : Ending → World → Prop} (h : St w p m logs rows W) (hc : ∀ K G, IsDisk K W p G m → Calls Tryz.prog f args W fun e w' => R e w' ∧ Kept W w') :
    Calls Tryz.prog f args W fun e w' => R e w' ∧ Kept W w' ∧ St w p m logs rows w' := by
  obtain ⟨K, G, h1, h2, h3, hd⟩ := h.disk
  exact (hc K G hd).mono fun e w' ⟨hr, k⟩ => ⟨hr, k, h.kept k⟩
theorem row_not_log {W : World} {base n b : Nat} {v : Value} {xs : List Value} {l : Wl.Lg} (h : W.ownsRow base 9 1 v n xs) (hl : IsLog W b p l) {r : Nat} (hr : v.ownBlock = some r) : r ≠ b := fun e => by
  obtain ⟨cur, hc⟩ := own_blk h hr
  rw [e, show W.heap[b]? = _ from hl] at hc
  simp [logObj] at hc
/-- a text is laid down -/
theorem St.add {l1 l2 : List (Nat × Wl.Lg)} {b : Nat} {lg : Wl.Lg} {E : Int} (h : St w p m (l1 ++ (b, lg) :: l2) rows W) (hn : lg.n ≤ 1099511627776) (hbr : lg.broken = false) (hsz : lg.size ≤ 1099511627776) (t : List UInt8) (hs : t.length ≤ 8000) (ht : Fs.tot m.files + 8003 ≤ 1099511627776) (eL : Wl.lay m lg.n (Fr.mk t) = (M, E)) :
    Calls Tryz.prog 13 #[.pointer (some ⟨b, 0, none⟩), .string (bs t)] W fun e W' => e = .returned (.int .i64 E) ∧ St w p M (l1 ++ (b, Wl.after lg (Fr.mk t).length E) :: l2) rows W' := by
  obtain ⟨K, G, h1, h2, h3, hd⟩ := h.disk
  have hm : (b, lg) ∈ l1 ++ (b, lg) :: l2 := by simp
  have hlg := h.log _ hm
  have hc := wadd_lay hd hlg.1 (h2 _ hm) h.var (fun k hk => h1 k (h.vars.lt hk)) hn hbr hsz (bs t) hs ht eL
  refine hc.mono fun e W' ⟨he, ⟨G', hd'⟩, hl', k⟩ => ⟨he, ?_⟩
  obtain ⟨a1, a2, a3⟩ := List.pairwise_append.1 h.logsA
  obtain ⟨a4, a5⟩ := List.pairwise_cons.1 a2
  have hne : ∀ q ∈ l1 ++ l2, q.1 ≠ b := fun q hq => by
    rcases List.mem_append.1 hq with hq | hq
    · exact a3 q hq (b, lg) (by simp)
    · exact (a4 q hq).symm
  have hmem : ∀ q ∈ l1 ++ l2, q ∈ l1 ++ (b, lg) :: l2 := fun q hq => by
    rcases List.mem_append.1 hq with hq | hq
    · exact List.mem_append_left _ hq
    · exact List.mem_append_right _ (List.mem_cons_of_mem _ hq)
  have hspl : ∀ q ∈ l1 ++ (b, Wl.after lg (Fr.mk t).length E) :: l2, q = (b, Wl.after lg (Fr.mk t).length E) ∨ q ∈ l1 ++ l2 := fun q hq => by
    rcases List.mem_append.1 hq with hq | hq
    · exact .inr (List.mem_append_left _ hq)
    · rcases List.mem_cons.1 hq with hq | hq
      · exact .inl hq
      · exact .inr (List.mem_append_right _ hq)
  refine ⟨⟨K, G', h1, fun q hq => ?_, h3, hd'⟩, fun q hq => ?_, fun q hq => own_same (h.row q hq) (fun r hr => k.block r ⟨h3 q hq r hr, row_not_log (h.row q hq) hlg.1 hr⟩), h.keep.trans (k.mono (fun x hx => ⟨h1 x hx, by have := hlg.2; show x ≠ b; have h9 : x < w.heap.size := hx; have h8 : w.heap.size ≤ b := this; omega⟩)), h.vars, ?_, h.rowsA⟩
  · rcases hspl q hq with rfl | hq
    · exact h2 (b, lg) hm
    · exact h2 q (hmem q hq)
  · rcases hspl q hq with rfl | hq
    · exact ⟨hl', hlg.2⟩
    · have := h.log q (hmem q hq)
      exact ⟨this.1.kp k ⟨h2 q (hmem q hq), hne q hq⟩, this.2⟩
  · refine List.pairwise_append.2 ⟨a1, List.pairwise_cons.2 ⟨fun q hq => a4 q hq, a5⟩, fun x hx y hy => ?_⟩
    rcases List.mem_cons.1 hy with rfl | hy
    · exact a3 x hx (b, lg) (by simp)
    · exact a3 x hx y (List.mem_cons_of_mem _ hy)
/-- one that is too long -/
theorem St.addLong {b : Nat} {lg : Wl.Lg} (h : St w p m logs rows W) (hm : (b, lg) ∈ logs) (hbr : lg.broken = false) (t : List UInt8) (htm : t.length ≤ maxLen) (hs : 8000 < t.length) :
    Calls Tryz.prog 13 #[.pointer (some ⟨b, 0, none⟩), .string (bs t)] W fun e W' => e = .returned (.int .i64 5) ∧ St w p m logs rows W' :=
  (wadd_long (h.log _ hm).1 hbr (bs t) (by simpa [bs, ByteArray.size] using htm) hs).mono fun e W' ⟨he, k⟩ => ⟨he, h.kept k⟩
/-- a list grows by a text -/
theorem St.grow {r1 r2 : List (Value × List (List UInt8))} {v v' : Value} {l : List (List UInt8)} {x : List UInt8} (h : St w p m logs (r1 ++ (v, l) :: r2) W) (hg : W.grownBy W' v.ownBlock) (hown : W'.ownsRow w.heap.size 9 1 v' (l ++ [x]).length (txc (l ++ [x]))) (hloc : ∀ r, v'.ownBlock = some r → v.ownBlock = some r ∨ W.heap.size ≤ r) : St w p m logs (r1 ++ (v', l ++ [x]) :: r2) W' := by
  obtain ⟨K, G, h1, h2, h3, hd⟩ := h.disk
  have hm : (v, l) ∈ r1 ++ (v, l) :: r2 := by simp
  have hr0 := h.row _ hm
  have hlt := fun (b : Nat) (e : v.ownBlock = some b) => hr0.lt b e
  obtain ⟨a1, a2, a3⟩ := List.pairwise_append.1 h.rowsA
  obtain ⟨a4, a5⟩ := List.pairwise_cons.1 a2
  have hmem : ∀ q ∈ r1 ++ r2, q ∈ r1 ++ (v, l) :: r2 := fun q hq => by
    rcases List.mem_append.1 hq with hq | hq
    · exact List.mem_append_left _ hq
    · exact List.mem_append_right _ (List.mem_cons_of_mem _ hq)
  have hap : ∀ q ∈ r1 ++ r2, Ap (v, l) q := fun q hq => by
    rcases List.mem_append.1 hq with hq | hq
    · exact fun r hv hq' => a3 q hq (v, l) (by simp) r hq' hv
    · exact a4 q hq
  have hspl : ∀ q ∈ r1 ++ (v', l ++ [x]) :: r2, q = (v', l ++ [x]) ∨ q ∈ r1 ++ r2 := fun q hq => by
    rcases List.mem_append.1 hq with hq | hq
    · exact .inr (List.mem_append_left _ hq)
    · rcases List.mem_cons.1 hq with hq | hq
      · exact .inl hq
      · exact .inr (List.mem_append_right _ hq)
  have hap' : ∀ q ∈ r1 ++ r2, Ap (v', l ++ [x]) q := fun q hq r hv hq' => by
    rcases hloc r hv with e | e
    · exact hap q hq r e hq'
    · have h9 := ((h.row q (hmem q hq)).lt r hq').2; omega
  refine ⟨⟨fun y => K y ∨ (W.heap.size ≤ y ∧ y < W'.heap.size), G, fun y hy => .inl (h1 y hy), fun q hq => .inl (h2 q hq), fun q hq r hr => ?_, ?_⟩, fun q hq => ?_, fun q hq => ?_, h.keep.trans (kp_grown hg (fun b hb => Nat.lt_of_lt_of_le hb h.keep.size) (fun r e hk => by have h9 := (hlt r e).1; have h8 : r < w.heap.size := hk; omega)), h.vars, h.logsA, ?_⟩
  · rcases hspl q hq with rfl | hq
    · rcases hloc r hr with e | e
      · exact .inl (h3 _ hm r e)
      · exact .inr ⟨e, (hown.lt r hr).2⟩
    · exact .inl (h3 q (hmem q hq) r hr)
  · exact hd.stay (fun b hb => by rcases hb with hb | hb; exact Nat.lt_of_lt_of_le (hd.lt b hb) hg.size; exact hb.2) (fun b hb => ⟨hg.block b (hd.mine_lt hb) (fun e => hd.mine_nk hb (h3 _ hm b e.symm)), fun h' => by
      rcases h' with h' | h'
      · exact hd.mine_nk hb h'
      · have := hd.mine_lt hb; omega⟩)
  · have := h.log q hq
    exact ⟨(hg.block q.1 (heap_lt this.1) (fun e => row_not_log hr0 this.1 e.symm rfl)).trans this.1, this.2⟩
  · rcases hspl q hq with rfl | hq
    · exact hown
    · exact own_same (h.row q (hmem q hq)) (fun r hr => hg.block r ((h.row q (hmem q hq)).lt r hr).2 (fun e => hap q hq r e.symm hr))
  · refine List.pairwise_append.2 ⟨a1, List.pairwise_cons.2 ⟨fun q hq => hap' q (List.mem_append_right _ hq), a5⟩, fun y hy z hz => ?_⟩
    rcases List.mem_cons.1 hz with rfl | hz
    · exact fun r hy' hv => hap' y (List.mem_append_left _ hy) r hv hy'
    · exact a3 y hy z (List.mem_cons_of_mem _ hz)
/-- a list more, that is empty -/
theorem St.newRow (h : St w p m logs rows W) : St w p m logs ((.slice (some ⟨W.heap.size, 0, none⟩) 0 0, []) :: rows) (W.alloc (.cells #[] 9)) := by
  have ka : Kept W (W.alloc (.cells #[] 9)) := (Kept.refl W).alloc _
  have h' := h.kept ka
  obtain ⟨K, G, h1, h2, h3, hd⟩ := h.disk
  have hs := h.keep.size
  have hown : (W.alloc (.cells #[] 9)).ownsRow w.heap.size 9 1 (.slice (some ⟨W.heap.size, 0, none⟩) 0 0) 0 (txc []) := ⟨by simp [txc], .inr ⟨W.heap.size, 0, #[], rfl, hs, heap_alloc_new W _, Nat.le_refl _, Nat.zero_le _, by simp, by simp [txc]⟩⟩
  refine ⟨⟨_, G, fun x hx => .inl (h1 x hx), fun q hq => .inl (h2 q hq), fun q hq r hr => ?_, hd.wide ka⟩, h'.log, fun q hq => ?_, h'.keep, h.vars, h.logsA, List.pairwise_cons.2 ⟨fun q hq r hv hq' => ?_, h.rowsA⟩⟩
  · rcases List.mem_cons.1 hq with rfl | hq
    · simp [Value.ownBlock] at hr; subst hr; exact .inr ⟨Nat.le_refl _, by simp⟩
    · exact .inl (h3 q hq r hr)
  · rcases List.mem_cons.1 hq with rfl | hq
    · exact hown
    · exact h'.row q hq
  · simp [Value.ownBlock] at hv
    have h9 := ((h.row q hq).lt r hq').2
    omega
/-- a log more -/
theorem St.create {n : Nat} (h : St w p m logs rows W) (hn : n ≤ 1099511627776) (hp : m.pend.length < 1099511627776) (hM : Wl.mkLog m n = (M, 0)) :
    Calls Tryz.prog 15 #[.pointer (some ⟨p, 0, none⟩), .int .u64 n] W fun e w' => ∃ b, e = .returned (.tuple #[.pointer (some ⟨b, 0, none⟩), .int .i64 0]) ∧ St w p M (logs ++ [(b, ⟨n, 0, false⟩)]) rows w' := by
  obtain ⟨K, G, h1, h2, h3, hd⟩ := h.disk
  refine (wcreate_ok hd h.var hn hp hM).mono fun e w' ⟨b, he, hl, hb, ⟨G', hd'⟩, k⟩ => ⟨b, he, ?_⟩
  have hs := h.keep.size
  have hspl : ∀ q ∈ logs ++ [(b, (⟨n, 0, false⟩ : Wl.Lg))], q ∈ logs ∨ q = (b, ⟨n, 0, false⟩) := fun q hq => by simpa using hq
  refine ⟨⟨_, G', fun x hx => .inl (h1 x hx), fun q hq => ?_, fun q hq r hr => .inl (h3 q hq r hr), hd'⟩, fun q hq => ?_, fun q hq => own_same (h.row q hq) (fun r hr => k.block r (h3 q hq r hr)), h.keep.trans (k.mono h1), h.vars, ?_, h.rowsA⟩
  · rcases hspl q hq with hq | rfl
    · exact .inl (h2 q hq)
    · exact .inr rfl
  · rcases hspl q hq with hq | rfl
    · exact ⟨(h.log q hq).1.kp k (h2 q hq), (h.log q hq).2⟩
    · exact ⟨hl, by show w.heap.size ≤ b; omega⟩
  · refine List.pairwise_append.2 ⟨h.logsA, by simp, fun x hx y hy => ?_⟩
    simp at hy; subst hy
    have := heap_lt (h.log x hx).1
    show x.1 ≠ b; omega
/-- the disk is made -/
theorem st_new (W : World) (hk : Kept w W) (hv : Vars w) : Calls Tryz.prog 10 #[] W fun e w' => ∃ p, e = .returned (.pointer (some ⟨p, 0, none⟩)) ∧ St w p Fs.new [] [] w' := by
  refine (new_any (K := fun b => b < w.heap.size) (fun b hb => Nat.lt_of_lt_of_le hb (Below.size hk))).mono fun e w' ⟨p, he, ⟨G, hd⟩, k⟩ => ⟨p, he, ⟨_, G, fun x hx => hx, by simp, by simp, hd⟩, by simp, by simp, (kp_kept hk (fun b hb => hb)).trans k, hv, List.Pairwise.nil, List.Pairwise.nil⟩
theorem St.fin (h : St w p m logs rows W) : Kept w W := h.keep.below (fun i hi => hi)
/-- a list of texts that came in -/
theorem St.txs (h : St w p m logs rows W) {A : Option Addr} {l : List (List UInt8)} (ha : Txs w A l) : Txs W A l := ha.kept h.fin
/-- a list that is kept -/
theorem St.rowTxs {v : Value} {l : List (List UInt8)} (h : St w p m logs rows W) (hq : (v, l) ∈ rows) : ∃ A c, v = .slice A l.length c ∧ Txs W A l ∧ W.ownsRow w.heap.size 9 1 (.slice A l.length c) l.length (txc l) := by
  have hr : W.ownsRow w.heap.size 9 1 v l.length (txc l) := h.row (v, l) hq
  obtain ⟨A, c, e, _, ht⟩ := txs_own hr
  subst e
  exact ⟨A, c, rfl, ht, hr⟩
/-- what is read back of a log -/
theorem St.replay (h : St w p m logs rows W) {n : Nat} (hn : n ≤ 1099511627776) {B : List UInt8} (hR : Fs.read m (Wl.nm n) = (B, 0)) (hB : B.length ≤ 16777216) {l : List (List UInt8)} {r : List UInt8} (hr : Fr.Reads B l r) :
    Calls Tryz.prog 28 #[.pointer (some ⟨p, 0, none⟩), .int .u64 n] W fun e w' => ∃ A c, e = .returned (.tuple #[.slice A l.length c, .int .i64 0]) ∧ Txs w' A l ∧ l.length ≤ c ∧ Kept W w' ∧ St w p m logs rows w' := by
  obtain ⟨K, G, h1, h2, h3, hd⟩ := h.disk
  exact (wreplay_ok hd h.var hn hR hB hr).mono fun e w' ⟨A, c, he, ht, hc, k⟩ => ⟨A, c, he, ht.txs, hc, k, h.kept k⟩
end
theorem loc_of {v v' : Value} {W : World} {o : Obj} (h : v'.ownBlock = v.ownBlock ∨ v'.ownBlock = some (W.alloc o).heap.size) : ∀ r, v'.ownBlock = some r → v.ownBlock = some r ∨ W.heap.size ≤ r := fun r hr => by
  rcases h with e | e
  · exact .inl (by rw [← e]; exact hr)
  · rw [e] at hr; simp at hr; exact .inr (by omega)
theorem txc_snoc (l : List (List UInt8)) (x : List UInt8) : txc l ++ [.string (bs x)] = txc (l ++ [x]) := by simp [txc]
end Go.Proofs.YtlkcdcpdccmodaaGreatDoor
