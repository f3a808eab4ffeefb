/-
  The walk of screelaw08.MergeGroups.
-/
import Derived.Test.YtpbhbgoaaephgaaMergeLawNewest
namespace Go.Proofs.Ytpbhbgoaaephgaa
open Go.ChangeShapes Go.WideShapes Go.ChangeAt Go.RowKit
set_option linter.unusedVariables false
set_option maxRecDepth 100000
set_option maxHeartbeats 4000000

theorem tog_two (rows : List (List Mm.Ent)) (k : Nat) : Mg.tog [Mg.tog (rows.take k), Mg.tog (rows.drop k)] = Mg.tog rows := by
  refine (Mg.tog_uniq (Mg.tog_row rows) fun a b => ?_).symm
  rw [Mg.tog_look, show [Mg.tog (rows.take k), Mg.tog (rows.drop k)].flatten = Mg.tog (rows.take k) ++ Mg.tog (rows.drop k) by simp, Mg.look_app, Mg.tog_look, Mg.tog_look, ← Mg.look_app, ← List.flatten_append, List.take_append_drop]
theorem tog_one (rows : List (List Mm.Ent)) : Mg.tog [Mg.tog rows] = Mg.tog rows := by
  refine (Mg.tog_uniq (Mg.tog_row rows) fun a b => ?_).symm
  rw [show [Mg.tog rows].flatten = Mg.tog rows by simp]
theorem all_of {rows : List (List Mm.Ent)} (h : rows.all Mg.row = true) : Mg.allS rows = Mg.tog rows ∧ Mg.allC rows = 0 := allS_yes (fun r hr => List.all_eq_true.1 h r hr)
theorem all_not {rows : List (List Mm.Ent)} (h : rows.all Mg.row = false) : Mg.allS rows = [] ∧ Mg.allC rows = 2 := by
  unfold Mg.allS Mg.allC; rw [h]; exact ⟨rfl, rfl⟩
theorem tog_isrow (rows : List (List Mm.Ent)) : Mg.row (Mg.tog rows) = true := Mg.row_iff.2 (Mg.tog_row rows)
theorem flat_take {rows : List (List Mm.Ent)} (k : Nat) : (rows.take k).flatten.length + (rows.drop k).flatten.length = rows.flatten.length := by
  rw [← List.length_append, ← List.flatten_append, List.take_append_drop]
theorem rws_take {w : World} {A : Option Addr} {rs : List Rs} (h : Rws w A rs) (k : Nat) : Rws w A (rs.take k) :=
  ⟨fun j r hr => (by
    rw [List.getElem?_take] at hr
    split at hr
    · exact h.at_ j r hr
    · cases hr), fun r hr => h.els r (List.mem_of_mem_take hr), fun r hr => h.few r (List.mem_of_mem_take hr), fun r hr => h.cap r (List.mem_of_mem_take hr), fun r hr => h.most r (List.mem_of_mem_take hr)⟩
theorem rws_drop {w : World} {b o : Nat} {rs : List Rs} (h : Rws w (some ⟨b, o, none⟩) rs) (k : Nat) : Rws w (some ⟨b, o + k, none⟩) (rs.drop k) :=
  ⟨fun j r hr => (by
    rw [List.getElem?_drop] at hr
    obtain ⟨b', o', e, hb, hc⟩ := h.at_ (k + j) r hr
    cases e
    exact ⟨b, o + k, rfl, hb, by rw [Nat.add_assoc]; exact hc⟩), fun r hr => h.els r (List.mem_of_mem_drop hr), fun r hr => h.few r (List.mem_of_mem_drop hr), fun r hr => h.cap r (List.mem_of_mem_drop hr), fun r hr => h.most r (List.mem_of_mem_drop hr)⟩
theorem rws_nil (w : World) (A : Option Addr) : Rws w A [] := ⟨fun j r hr => by simp at hr, fun r hr => by simp at hr, fun r hr => by simp at hr, fun r hr => by simp at hr, fun r hr => by simp at hr⟩
theorem gall_n {w : World} {A : Option Addr} {rs : List Rs} (cr n : Nat) (H : Rws w A rs) (hn : rs.length ≤ 30) (hs : (rs.map Rs.l).flatten.length ≤ 300) (he : rs.length = n) :
    Calls Try.prog 43 #[.slice A n cr] w fun e w' => ∃ B c, e = .returned (.tuple #[.slice B (Mg.allS (rs.map Rs.l)).length c, .int .i64 (Mg.allC (rs.map Rs.l))]) ∧ Elr w.heap.size w' B c (Mg.allS (rs.map Rs.l)) ∧ Kept w w' := by
  subst he
  exact gall_any cr H (by omega) (by omega)
end Go.Proofs.Ytpbhbgoaaephgaa
