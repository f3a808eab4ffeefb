/-
  A directory of package fs in memory: a map from names to pointers, read as a rising list; look-ups, stores, what goes, how many; maps.Clone; the names in order.
-/
import Derived.Test.YtlkcdcpdccmodaaGreatDoorBytes
import Derived.Test.YtlkcdcpdccmodaaGreatDoorFsMath
import Derived.Test.YtlkcdcpdccmodaaGreatDoorLays
import Derived.Maps.RangeWalk
import Derived.Sort.KeysCollected
import Derived.OwnWalkIn
namespace Go.Proofs.YtlkcdcpdccmodaaGreatDoor
open Go.ChangeShapes Go.WideShapes Go.ChangeAt Go.RowKit Go.Maps Go.Sort Go.Shelf
set_option linter.unusedVariables false
set_option maxRecDepth 100000
set_option maxHeartbeats 400000

/-- how a pointer to a file reads: as its block's number; none as nil -/
def ptrElem : Value → Option (DataW Unit × List MemPlace)
  | .pointer none => some (.nil, [])
  | .pointer (some ⟨g, 0, none⟩) => some (.lit (.int .i64 g), [])
  | _ => none
theorem ptrElem_inv {v : Value} {z : DataW Unit × List MemPlace} (h : ptrElem v = some z) : (v = .pointer none ∧ z = (.nil, [])) ∨ ∃ g : Nat, v = .pointer (some ⟨g, 0, none⟩) ∧ z = (.lit (.int .i64 g), []) := by
  unfold ptrElem at h
  split at h
  · cases h; exact .inl ⟨rfl, rfl⟩
  · cases h; exact .inr ⟨_, rfl, rfl⟩
  · cases h
def toD (loc : Nat → Nat) (d : Fs.Dir) : DataW Unit := .map (d.map fun p => (Lit.string p.1, DataW.lit (.int .i64 (loc p.2))))
def ptrV (loc : Nat → Nat) (o : Option Nat) : Value := .pointer (o.map fun i => ⟨loc i, 0, none⟩)
theorem ptrV_some (loc : Nat → Nat) (i : Nat) : ptrV loc (some i) = .pointer (some ⟨loc i, 0, none⟩) := rfl
theorem ptrV_none (loc : Nat → Nat) : ptrV loc none = .pointer none := rfl
theorem toD_insert (loc : Nat → Nat) (k : Fs.Nm) (i : Nat) : ∀ d : Fs.Dir, DataW.insert (H := Unit) (Lit.string k, .lit (.int .i64 (loc i))) (d.map fun p => (Lit.string p.1, DataW.lit (.int .i64 (loc p.2)))) = (Fs.ins (k, i) d).map fun p => (Lit.string p.1, DataW.lit (.int .i64 (loc p.2)))
  | [] => rfl
  | y :: r => by
    simp only [List.map_cons, DataW.insert, Fs.ins, Lit.before]
    by_cases hb : bytesBefore k y.1 = true <;> simp [hb, toD_insert loc k i r]
theorem toD_del (loc : Nat → Nat) (d : Fs.Dir) (k : Fs.Nm) : (toD loc d).del (.string k) = toD loc (Fs.ddel d k) := by
  simp only [toD, DataW.del, Fs.ddel, List.filter_map]
  rfl
theorem toD_put (loc : Nat → Nat) (d : Fs.Dir) (k : Fs.Nm) (i : Nat) : (toD loc d).put (.string k) (.lit (.int .i64 (loc i))) = toD loc (Fs.dput d k i) := by
  have h := toD_del loc d k
  simp only [toD, DataW.del, DataW.map.injEq] at h
  simp only [toD, DataW.put, h, toD_insert, Fs.dput]
theorem toD_find (loc : Nat → Nat) (k : Fs.Nm) : ∀ d : Fs.Dir, (d.map fun p => (Lit.string p.1, DataW.lit (H := Unit) (.int .i64 (loc p.2)))).find? (fun p => p.1.sameKey (.string k)) = (d.find? (fun p => p.1 == k)).map fun p => (Lit.string p.1, DataW.lit (.int .i64 (loc p.2)))
  | [] => rfl
  | y :: r => by
    simp only [List.map_cons, List.find?_cons, Lit.sameKey]
    cases y.1 == k
    · exact toD_find loc k r
    · rfl
theorem toD_at (loc : Nat → Nat) (d : Fs.Dir) (k : Fs.Nm) (z : DataW Unit) : (toD loc d).atKey (.string k) z = match Fs.dget d k with | some i => .lit (.int .i64 (loc i)) | none => z := by
  simp only [toD, DataW.atKey, toD_find, Fs.dget]
  cases d.find? (fun p => p.1 == k) <;> rfl
theorem toD_has (loc : Nat → Nat) (d : Fs.Dir) (k : Fs.Nm) : Maps.has (toD loc d) (.string k) = (Fs.dget d k).isSome := by
  cases h : Fs.dget d k with
  | none => exact Maps.has_false_of_atKey (fun z => by rw [toD_at, h])
  | some i => exact Maps.has_true_of_atKey (y := .lit (.int .i64 (loc i))) (fun z => by rw [toD_at, h])
theorem toD_size (loc : Nat → Nat) (d : Fs.Dir) : Maps.size (toD loc d) = d.length := by simp [toD, Maps.size]
theorem toD_keys (loc : Nat → Nat) (d : Fs.Dir) : strKeys (toD loc d) = d.map (·.1) := by simp [toD, strKeys, strOf]
theorem toD_congr {loc loc' : Nat → Nat} {d : Fs.Dir} (h : ∀ p ∈ d, loc' p.2 = loc p.2) : toD loc' d = toD loc d := by
  simp only [toD]; congr 1; exact List.map_congr_left (fun p hp => by rw [h p hp])
def OwnsDir (w : World) (loc : Nat → Nat) (b : Nat) (d : Fs.Dir) : Prop := w.ownsMap Tryz.prog 9 ptrElem b d.length (toD loc d)
theorem OwnsDir.lt {w : World} {loc : Nat → Nat} {b : Nat} {d : Fs.Dir} (h : OwnsDir w loc b d) : b < w.heap.size := World.ownsMap.lt h
theorem ownsDir_tight {w : World} {loc : Nat → Nat} {b n : Nat} {d : Fs.Dir} (h : w.ownsMap Tryz.prog 9 ptrElem b n (toD loc d)) : OwnsDir w loc b d := by
  obtain ⟨es, clock, hb, F, hs, hD⟩ := h
  refine ⟨es, clock, hb, F, ?_, hD⟩
  have := congrArg Maps.size hD
  rw [toD_size] at this
  simp [Maps.size, length_sorted] at this
  omega
theorem OwnsDir.same {w w' : World} {loc : Nat → Nat} {b : Nat} {d : Fs.Dir} (h : OwnsDir w loc b d) (e : w'.heap[b]? = w.heap[b]?) : OwnsDir w' loc b d := by
  obtain ⟨es, clock, hb, r⟩ := h
  exact ⟨es, clock, e.trans hb, r⟩
theorem OwnsDir.congr {w : World} {loc loc' : Nat → Nat} {b : Nat} {d : Fs.Dir} (h : OwnsDir w loc b d) (e : ∀ p ∈ d, loc' p.2 = loc p.2) : OwnsDir w loc' b d := by
  unfold OwnsDir; rw [toD_congr e]; exact h
theorem OwnsDir.isMap {w : World} {loc : Nat → Nat} {b : Nat} {d : Fs.Dir} (h : OwnsDir w loc b d) : ∃ es clock, w.heap[b]? = some (.map es clock) := by
  obtain ⟨es, clock, hb, r⟩ := h
  exact ⟨es, clock, hb⟩
theorem keyedS : Keyed Tryz.prog 9 := string_keyed Tryz.underlying9
theorem zeroPtr (w : World) : (zeroValue 88).run Tryz.prog w = .ok (.pointer none) w := by kernel_rfl
theorem look_dir {w : World} {loc : Nat → Nat} {b : Nat} {d : Fs.Dir} (h : OwnsDir w loc b d) {s : ByteArray} (hs : s.size ≤ maxLen) :
    (Instr.lookup 72 (.map (some b)) (.string s) false).run Tryz.prog w = .ok (ptrV loc (Fs.dget d s.data.toList)) w := by
  obtain ⟨v, ps, hrun, hv⟩ := World.ownsMap.lookup h keyedS Tryz.underlying72 (zeroPtr w) (zd := .nil) (zp := []) rfl (WideMaps.keyOf_string_mk Tryz.underlying9 hs)
  rw [hrun]
  rw [toD_at] at hv
  congr 1
  cases hg : Fs.dget d s.data.toList <;> rw [hg] at hv <;> simp only at hv
  · rcases ptrElem_inv hv with ⟨rfl, _⟩ | ⟨g, rfl, e⟩
    · rfl
    · cases e
  · rcases ptrElem_inv hv with ⟨rfl, e⟩ | ⟨g, rfl, e⟩
    · cases e
    · simp at e; have e1 : loc _ = g := Int.ofNat.inj e.1; rw [ptrV_some, e1]
theorem look_dir_ok {w : World} {loc : Nat → Nat} {b : Nat} {d : Fs.Dir} (h : OwnsDir w loc b d) {s : ByteArray} (hs : s.size ≤ maxLen) :
    (Instr.lookup 72 (.map (some b)) (.string s) true).run Tryz.prog w = .ok (.tuple #[ptrV loc (Fs.dget d s.data.toList), .bool (Fs.dget d s.data.toList).isSome]) w := by
  obtain ⟨v, ps, hrun, hv⟩ := World.ownsMap.look_ok h keyedS Tryz.underlying72 (zeroPtr w) (zd := .nil) (zp := []) rfl (WideMaps.keyOf_string_mk Tryz.underlying9 hs)
  rw [hrun, toD_has]
  rw [toD_at] at hv
  congr 3
  cases hg : Fs.dget d s.data.toList <;> rw [hg] at hv <;> simp only at hv
  · rcases ptrElem_inv hv with ⟨rfl, _⟩ | ⟨g, rfl, e⟩
    · rfl
    · cases e
  · rcases ptrElem_inv hv with ⟨rfl, e⟩ | ⟨g, rfl, e⟩
    · cases e
    · simp at e; have e1 : loc _ = g := Int.ofNat.inj e.1; rw [ptrV_some, e1]
theorem del_dir {w : World} {loc : Nat → Nat} {b : Nat} {d : Fs.Dir} (h : OwnsDir w loc b d) {s : ByteArray} (hs : s.size ≤ maxLen) (ty : TypeId) :
    ∃ w', (Builtin.delete_ #[72, 9] ty #[.map (some b), .string s]).run Tryz.prog w = .ok (.tuple #[]) w' ∧ OwnsDir w' loc b (Fs.ddel d s.data.toList) ∧ w.grownBy w' (some b) ∧ w'.heap.size = w.heap.size := by
  obtain ⟨w', hrun, ho, ht⟩ := World.ownsMap.drop h keyedS Tryz.underlying72 (WideMaps.keyOf_string_mk Tryz.underlying9 hs) ty
  rw [toD_del] at ho
  refine ⟨w', hrun, ownsDir_tight ho, ht.grown, ?_⟩
  obtain ⟨es, clock, es', clock', _, rfl⟩ := ht
  simp [ChangeMaps.setBlock]
theorem put_dir {w : World} {loc : Nat → Nat} {b : Nat} {d : Fs.Dir} (h : OwnsDir w loc b d) (hl : d.length ≤ 60) {s : ByteArray} (hs : s.size ≤ maxLen) (i : Nat) :
    ∃ w', (Instr.mapUpdate 72 (.map (some b)) (.string s) (.pointer (some ⟨loc i, 0, none⟩))).run Tryz.prog w = .ok () w' ∧ OwnsDir w' loc b (Fs.dput d s.data.toList i) ∧ w.grownBy w' (some b) ∧ w'.heap.size = w.heap.size := by
  obtain ⟨w', hrun, ho, ht⟩ := World.ownsMap.store h keyedS Tryz.underlying72 (by unfold maxLen; omega) (key := .string s) (val := .pointer (some ⟨loc i, 0, none⟩)) (d := .lit (.int .i64 (loc i))) (ps := []) (WideMaps.keyOf_string_mk Tryz.underlying9 hs) rfl
  rw [toD_put] at ho
  refine ⟨w', hrun, ownsDir_tight ho, ht.grown, ?_⟩
  obtain ⟨es, clock, es', clock', _, rfl⟩ := ht
  simp [ChangeMaps.setBlock]
theorem len_dir {w : World} {loc : Nat → Nat} {b : Nat} {d : Fs.Dir} (h : OwnsDir w loc b d) (ty : TypeId) : (Builtin.len_ #[72] ty #[.map (some b)]).run Tryz.prog w = .ok (.int .i64 d.length) w := by
  have := World.ownsMap.len h Tryz.underlying72 ty
  rw [toD_size] at this
  exact this
theorem clone_dir {w : World} {loc : Nat → Nat} {b : Nat} {d : Fs.Dir} (h : OwnsDir w loc b d) :
    Calls Tryz.prog 54 #[.map (some b)] w fun e w' => e = .returned (.map (some w.heap.size)) ∧ ∃ es clock, w' = w.alloc (.map es clock) ∧ OwnsDir w' loc w.heap.size d := by
  obtain ⟨es, clock, hb, F, hs, hD⟩ := h
  refine (AnyW.maps_Clone Tryz.cloneFs b es clock w hb).mono fun e w' ⟨he, hw⟩ => ⟨he, es, clock, hw, ?_⟩
  subst hw
  exact ⟨es, clock, (MapKept.heap_alloc w _).1, F, hs, hD⟩
/-- how the directory is gone through: the step -/
theorem wpList_next_dir {w : World} {ops : Array Oper} {rest : List Oper} {o : Oper} {a : Act} {Q : Exit → Act → World → Prop} (hg : o.guard = none) (it : Operand) (hop : o.op = Op.next it false)
    (b r n : Nat) (loc : Nat → Nat) (d : Fs.Dir) (left : Lit → Bool) (cnt : Nat) (hit : a.eval it = .pointer (some ⟨r, 0, none⟩)) (h : w.ranges Tryz.prog 9 ptrElem b r n (toD loc d) left cnt)
    (hDone : (∀ kl, left kl = false) → wpList Tryz.prog ops Q rest (a.put o.dst (.tuple #[.bool false])) w)
    (hMore : ∀ (x : Fs.Nm) (i : Nat) (w' : World) (cnt' : Nat), Fs.dget d x = some i → left (.string x) = true → w'.ranges Tryz.prog 9 ptrElem b r n (toD loc d) (fun z => left z && !z.sameKey (.string x)) cnt' → cnt' < cnt →
      w.grownBy w' (some r) → (Instr.entry (.pointer (some ⟨r, 0, none⟩))).run Tryz.prog w' = .ok (.tuple #[Go.Proofs.encStr x, .pointer (some ⟨loc i, 0, none⟩)]) w' → wpList Tryz.prog ops Q rest (a.put o.dst (.tuple #[.bool true, Go.Proofs.encStr x, .pointer (some ⟨loc i, 0, none⟩)])) w') :
    wpList Tryz.prog ops Q (o :: rest) a w := by
  refine wpList_next_ranges w hg it hop 9 keyedS ptrElem Go.Proofs.encStr (fun g : Option Nat => Value.pointer (g.map fun g => ⟨g, 0, none⟩)) (fun key kl hk => by obtain ⟨x, hx, _⟩ := Maps.keyOf_str Tryz.underlying9 hk; exact ⟨x, hx⟩)
    (fun v y hv => by rcases ptrElem_inv hv with ⟨rfl, _⟩ | ⟨g, rfl, _⟩; exact ⟨none, rfl⟩; exact ⟨some g, rfl⟩) b r n _ left cnt hit h (fun _ hl => hDone hl) ?_
  intro x c kl y w' cnt' hkey hlk hv hat hrg hlt hgr hsz hen
  obtain ⟨x', ex, rfl, _⟩ := Maps.keyOf_str Tryz.underlying9 hkey
  obtain rfl : x = x' := encStr_inj ex
  have h1 := hat .nil
  rw [toD_at] at h1
  cases hg : Fs.dget d x with
  | none =>
    have h2 := hat (.lit (.bool true))
    rw [toD_at, hg] at h2
    rw [hg] at h1
    simp only at h1 h2
    rw [← h1] at h2
    cases h2
  | some i =>
    rw [hg] at h1
    simp only at h1
    obtain rfl : c = some (loc i) := by
      rcases ptrElem_inv hv with ⟨e1, e2⟩ | ⟨g, e1, e2⟩
      · rw [e2] at h1; cases h1
      · rw [e2] at h1
        simp at h1
        have e3 : loc i = g := Int.ofNat.inj h1
        cases c with
        | none => cases e1
        | some c0 => simp at e1; rw [e1, e3]
    exact hMore x i w' cnt' hg hlk hrg hlt hgr hen
/-- the order of bytes -/
theorem before_lt : ∀ (a b : List UInt8), bytesBefore a b = true ↔ a < b
  | [], [] => by simp [bytesBefore]
  | [], _ :: _ => by simp [bytesBefore]
  | _ :: _, [] => by simp [bytesBefore]
  | a :: r, b :: s => by
    rw [List.cons_lt_cons_iff, ← before_lt r s]
    simp [bytesBefore]
theorem sorted_keys {d : Fs.Dir} (hr : Fs.Rise d) {ss : List (List UInt8)} (hp : ss.Perm (d.map (·.1))) : ss.mergeSort (fun x y => decide (x ≤ y)) = d.map (·.1) := by
  have h1 := mergeSort_of_perm hp
  have h2 : (d.map (·.1)).mergeSort leB = d.map (·.1) := by
    refine List.mergeSort_of_pairwise ?_
    rw [List.pairwise_map]
    refine hr.imp fun {a b} h => ?_
    rw [before_lt] at h
    simp only [leB, decide_eq_true_eq]
    exact List.le_of_lt h
  exact h1.trans h2
theorem sortsFs (m : Nat) : AnyZ.SortsIn Tryz.prog Tryz.sortedFs_ren Fence.wide m :=
  ⟨fun blk off cap ss W hH hblk hsz => callsIn_wide.2 (AnyM.slices_Sort_string Tryz.sortFs blk off cap ss W hH hblk hsz),
   fun p cap W => callsIn_wide.2 (AnyM.slices_Sort_string_none Tryz.sortFs p cap W)⟩
theorem keys_fs (mb : Option Nat) (W : World) : CallsIn Fence.wide 5 Tryz.prog 86 #[.map mb] W fun e w' => e = .returned (.func (.func 102) #[] #[.pointer (some ⟨W.heap.size, 0, none⟩)]) ∧ w' = W.alloc (.cells #[.map mb] 72) :=
  AnyZ.keys_in Tryz.keysFs Fence.wide 5 trivial rfl mb W
set_option maxHeartbeats 1000000 in
theorem sorted_fs {H : Type} (b nn : Nat) (D0 : DataW H) (R : Value → Option (DataW H × List MemPlace)) (w : World) (hown : w.ownsMap Tryz.prog 9 R b nn D0) (hmax : Maps.size D0 ≤ maxLen) (hbytes : Maps.size D0 * 16 ≤ 140737488355328) :
    CallsIn Fence.wide 5 Tryz.prog 85 #[.func (.func 102) #[] #[.pointer (some ⟨w.heap.size, 0, none⟩)]] (w.alloc (.cells #[.map (some b)] 72)) fun e w' => ∃ (v : Value) (ss : List (List UInt8)), e = .returned v ∧ ss.Perm (strKeys D0) ∧
      w'.ownsRow (w.alloc (.cells #[.map (some b)] 72)).heap.size 9 1 v ss.length ((ss.mergeSort (fun x y => decide (x ≤ y))).map encStr) ∧ (v = .slice none 0 0 ↔ ss = []) ∧ Below (w.alloc (.cells #[.map (some b)] 72)).heap.size (w.alloc (.cells #[.map (some b)] 72)) w' := by
  have hbl := hown.lt
  have hseq : SeqGives Fence.wide 2 Tryz.prog 102 #[.pointer (some ⟨w.heap.size, 0, none⟩)] encStr (fun ss => ss.Perm (strKeys D0)) (Maps.size D0) (w.alloc (.cells #[.map (some b)] 72)) :=
    AnyZ.keys_gives (ρ := Tryz.keysFs_ren) { Tryz.keysFs with } Fence.wide _ trivial rfl (by omega) w.heap.size b nn D0 _ (by simp) (by simp) (by
      obtain ⟨es, clock, hb, Ft, hs, hD⟩ := hown
      exact ⟨es, clock, (Below.heap_alloc _ _ b hbl).trans hb, Ft, hs, hD⟩)
  exact AnyZ.sorted_in Tryz.sortedFs Fence.wide 5 trivial trivial trivial trivial rfl (by omega) (sortsFs _) (enters_of Tryz.func101 (by kernel_rfl) rfl) 102 #[.pointer (some ⟨w.heap.size, 0, none⟩)] trivial (enters_of Tryz.func102 (by kernel_rfl) rfl) _ _ hmax hbytes _ hseq
set_option maxHeartbeats 1000000 in
/-- the names in order -/
theorem rising_dir {w : World} {loc : Nat → Nat} {b : Nat} {d : Fs.Dir} (h : OwnsDir w loc b d) (hr : Fs.Rise d) (hl : d.length ≤ 60) :
    Calls Tryz.prog 57 #[.map (some b)] w fun e w' => ∃ v, e = .returned v ∧ w'.ownsRow w.heap.size 9 1 v d.length ((d.map (·.1)).map encStr) ∧ Below w.heap.size w w' := by
  refine (callsIn_wide (n := 6)).1 ?_
  have hfK : Fence.wide.fn 86 := trivial
  have hfS : Fence.wide.fn 85 := trivial
  have hc := sorted_fs b d.length (toD loc d) ptrElem w h (by rw [toD_size]; unfold maxLen; omega) (by rw [toD_size]; omega)
  refine callsIn_of_wp Tryz.func57 rfl trivial ?_ rfl
  simp only [Tryz.ntmps57, List.size_toArray, List.length_cons, List.length_nil, Nat.reduceAdd, Nat.reduceSub, Array.replicate_succ, Array.replicate_zero, List.push_toArray, List.append_toArray, List.nil_append, List.cons_append]
  gi_wp2_with (first
    | (gi_at_call 86; refine (keys_fs _ _).mono ?_; rintro e w' ⟨rfl, rfl⟩)
    | (gi_at_call 85; refine hc.mono ?_; rintro e w' ⟨v, ss, rfl, hS, hrow, hnil, hb⟩))
  go_ret
  rw [toD_keys] at hS
  rw [sorted_keys hr hS] at hrow
  have hlen : ss.length = d.length := by rw [hS.length_eq, List.length_map]
  rw [hlen] at hrow
  exact ⟨v, rfl, ownsRow_base_a hrow (by simp), ((Below.refl _ w).alloc (Nat.le_refl _) _).trans (hb.mono (by simp))⟩
end Go.Proofs.YtlkcdcpdccmodaaGreatDoor
