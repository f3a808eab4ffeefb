/-
  A row of bytes of a call's own: append in plain form, made rows, rows as strings.
-/
import Derived.Test.YtnnmalpnjlnnlaaGreatNumRef
import Derived.Lib.ConvBytes
namespace Go.Proofs.YtnnmalpnjlnnlaaGreat
open Go.ChangeShapes Go.WideShapes Go.ChangeAt Go.RowKit
set_option linter.unusedVariables false
set_option maxRecDepth 100000
set_option maxHeartbeats 400000

theorem cells_new (w : World) (N : List UInt8) (t : TypeId) : ∀ j u, (cellsOf N)[j]? = some u → (w.alloc (.cells (cellsOf N).toArray t)).cell? ((⟨w.heap.size, 0, none⟩ : Addr).add j) = some u := by
  intro j u hj
  have ea : (⟨w.heap.size, 0, none⟩ : Addr).add j = ⟨w.heap.size, j, none⟩ := by unfold Addr.add; split <;> simp_all
  rw [ea]
  simp [hj]
theorem cellsOf_one (N : List UInt8) : ∀ u ∈ cellsOf N, u.oneCell' = true := by
  intro u hu
  unfold cellsOf at hu
  rw [List.mem_map] at hu
  obtain ⟨c, _, rfl⟩ := hu
  rfl
theorem cellsOf_app (a b : List UInt8) : cellsOf a ++ cellsOf b = cellsOf (a ++ b) := by simp [cellsOf]
/-- append of bytes that were just laid down, onto a row of the call's own -/
theorem app_b {ops : Array Oper} {rest : List Oper} {o : Oper} {a : Act} {Q : Exit → Act → World → Prop} {w wr : World} {v : Value} {L : List UInt8} (N : List UInt8) (c : Array Value) (s x : Operand)
    (hgd : o.guard = none) (ho : o.op = .call { callee := .builtin .append, args := #[s, x], argTypes := #[99, 99] })
    (hs : a.eval s = v) (hown : wr.ownsRow w.heap.size 5 1 v L.length (cellsOf L)) (hk : Kept w wr) (m : Nat) (hx : a.eval x = .slice (some ⟨wr.heap.size, 0, none⟩) m m) (hm : m = N.length) (hc : c = (cellsOf N).toArray) (hlen : L.length + N.length ≤ 16777216)
    (h : ∀ v' w1, w1.ownsRow w.heap.size 5 1 v' (L ++ N).length (cellsOf (L ++ N)) → Kept w w1 → wpList Tryz.prog ops Q rest (a.put o.dst v') w1) :
    wpList Tryz.prog ops Q (o :: rest) a (wr.alloc (.cells c 5)) := by
  obtain ⟨i0, hi, hz0, hz1, hz2⟩ := info_parts info5
  subst hm hc
  have hsz : w.heap.size ≤ wr.heap.size := Below.size hk
  refine wpList_append_own _ hgd s x 99 ho w.heap.size 5 i0 (.int .u8 0) 1 1 Tryz.underlying99 hi hz0 hz1 hz2 rfl (by decide) v L.length (cellsOf L) hs (hown.alloc _) ⟨wr.heap.size, 0, none⟩ N.length N.length (cellsOf N) hx (by rw [cellsOf_len, Nat.mul_one]) (cells_new _ _ _) (cellsOf_one N) (by unfold maxLen; omega) (by omega) (by simp; omega) ?_
  intro v' w1 hown' hgrow _
  rw [cellsOf_app] at hown'
  exact h v' w1 (by rw [List.length_append]; exact hown') (Below.grown (hk.alloc _) hgrow (by simp; omega) (fun k hk => (hown.lt k hk).1))
/-- make([]byte, 0, c) -/
theorem made_b (c : Nat) (ci : Int) (hci : ci = (c : Int)) (hc : c ≤ 16777216) (w : World) : ∃ cur, (Instr.makeSlice 99 (.int .i64 0) (.int .i64 ci)).run Tryz.prog w = .ok (.slice (some ⟨w.heap.size, 0, none⟩) 0 c) (w.alloc (.cells cur 5)) ∧ cur.size = c * 1 := by
  obtain ⟨i0, hi, hz0, hz1, hz2⟩ := info_parts info5
  have hr := run_make (P := Tryz.prog) w 99 5 i0 (.int .u8 0) Tryz.underlying99 hi hz0 .i64 .i64 0 c (by omega) (by omega) (by rw [hz2]; omega) (by omega)
  simp only [Int.toNat_natCast, Int.toNat_zero] at hr
  subst hci
  exact ⟨_, hr, by rw [size_madeCells, hz1]⟩
theorem own_made (w : World) (cur : Array Value) (c : Nat) (hc : c ≤ 16777216) (hs : cur.size = c * 1) : (w.alloc (.cells cur 5)).ownsRow w.heap.size 5 1 (.slice (some ⟨w.heap.size, 0, none⟩) 0 c) ([] : List UInt8).length (cellsOf []) :=
  World.ownsRow_made (base := w.heap.size) (e := 5) (size := 1) w cur c (Nat.le_refl _) (by unfold maxLen; omega) hs
theorem addr_add (b j : Nat) : (⟨b, 0, none⟩ : Addr).add j = ⟨b, j, none⟩ := by unfold Addr.add; split <;> simp_all
/-- []byte(s): a new row of the string's bytes, none of them frozen -/
theorem conv_str (s : ByteArray) (w : World) : ∃ (W0 : World) (cap : Nat), (convert 9 99 (.string s)).run Tryz.prog w = .ok (.slice (some ⟨w.heap.size, 0, none⟩) s.size cap) W0 ∧ W0.heap.size = w.heap.size + 1 ∧
    (∀ j, j < s.size → W0.cell? ⟨w.heap.size, j, none⟩ = some (.int .u8 ((s.data.toList.getD j 0).toNat : Int))) ∧ (∀ j, j < s.size → W0.frozen? ⟨w.heap.size, j, none⟩ = false) ∧ Kept w W0 := by
  refine ⟨Lib.bytesWorld w 5 s, _, Lib.run_convert_string_bytes w 9 99 5 s Tryz.underlying9 Tryz.underlying99 Tryz.underlying5, Lib.bytesWorld_size _ _ _, fun j hj => Lib.bytesWorld_cell w _ s j hj, fun j hj => ?_, ?_⟩
  · have hsz : s.size ≤ (Lib.bytesCells w 5 s).size := by simp [Lib.bytesCells]
    simp only [World.frozen?, Lib.bytesWorld_at_new]
    simp; omega
  · exact ⟨rfl, rfl, rfl, by rw [Lib.bytesWorld_size]; omega, fun j hj => Lib.bytesWorld_at_old w _ s j hj⟩
/-- string(b) of a row of which each cell is known -/
theorem conv_cells {w : World} {b cap n : Nat} (l : List UInt8) (hn : n = l.length) (h : ∀ j (hj : j < l.length), w.cell? ⟨b, j, none⟩ = some (.int .u8 (l[j].toNat : Int))) :
    (convert 99 9 (.slice (some ⟨b, 0, none⟩) n cap)).run Tryz.prog w = .ok (.string (bs l)) w := by
  subst hn
  refine run_convert_bytes_back _ 99 9 5 _ cap l Tryz.underlying99 Tryz.underlying5 Tryz.underlying9 ?_
  intro j hj
  rw [addr_add]; exact h j hj
theorem own_kept {w w' : World} {base : Nat} {e : TypeId} {size : Nat} {v : Value} {n : Nat} {xs : List Value} (h : w.ownsRow base e size v n xs) (k : Kept w w') : w'.ownsRow base e size v n xs := by
  refine ⟨h.1, ?_⟩
  rcases h.2 with h0 | ⟨g, cap, cur, hv, hb, hh, hr⟩
  · exact .inl h0
  · exact .inr ⟨g, cap, cur, hv, hb, (Below.block k g (Array.getElem?_eq_some_iff.1 hh).1).trans hh, hr⟩
end Go.Proofs.YtnnmalpnjlnnlaaGreat
