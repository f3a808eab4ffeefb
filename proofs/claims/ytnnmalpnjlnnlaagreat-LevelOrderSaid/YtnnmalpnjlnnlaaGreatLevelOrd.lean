/-
  Package level over memory: how a level's tables are held against each other; the library's sort at metas.
-/
import Derived.Test.YtnnmalpnjlnnlaaGreatLevelAsk
import Derived.Test.YtnnmalpnjlnnlaaGreatLevelSpec
import Derived.Shelf.SlSortCmp.WholeK
import Derived.Shelf.SlSortCmp.NoneTotal
namespace Go.Proofs.YtnnmalpnjlnnlaaGreat
open Go.ChangeShapes Go.WideShapes Go.ChangeAt Go.RowKit
open Go.Sort
set_option linter.unusedVariables false
set_option maxRecDepth 100000
set_option maxHeartbeats 4000000
open Lv
def cmpN (x y : Nat) : Int := if x < y then -1 else if y < x then 1 else 0
def cmpS (x y : List UInt8) : Int := if x < y then -1 else if y < x then 1 else 0
theorem lvnanU_any (x : Int) (w : World) : Calls Tryz.prog 111 #[.int .u64 x] w fun e w' => e = .returned (.bool false) ∧ w' = w := by
  go_enter Tryz.func111, Tryz.ntmps111
  go_wp2_with fail
  go_ret
  exact ⟨by simp, rfl⟩
theorem lvnanS_any (x : ByteArray) (w : World) : Calls Tryz.prog 130 #[.string x] w fun e w' => e = .returned (.bool false) ∧ w' = w := by
  have h : (x.toList == x.toList) = true := by simp
  go_enter Tryz.func130, Tryz.ntmps130
  go_wp2_with fail
  go_ret
  exact ⟨by simp, rfl⟩
theorem lvcmpU_any (x y : Nat) (w : World) : Calls Tryz.prog 104 #[.int .u64 (x : Nat), .int .u64 (y : Nat)] w fun e w' => e = .returned (.int .i64 (cmpN x y)) ∧ w' = w := by
  unfold cmpN
  by_cases h : x < y
  · have d1 : decide ((x : Int) < (y : Int)) = true := decide_eq_true (by omega)
    rw [if_pos h]
    go_enter Tryz.func104, Tryz.ntmps104
    go_wp2_with fail
    refine (lvnanU_any _ _).mono ?_
    rintro e w' ⟨rfl, rfl⟩
    go_wp2_with fail
    refine (lvnanU_any _ _).mono ?_
    rintro e w' ⟨rfl, rfl⟩
    go_wp2_with fail
    go_ret
    exact ⟨rfl, rfl⟩
  · rw [if_neg h]
    by_cases h2 : y < x
    · have d1 : decide ((x : Int) < (y : Int)) = false := decide_eq_false (by omega)
      have d2 : decide ((y : Int) < (x : Int)) = true := decide_eq_true (by omega)
      rw [if_pos h2]
      go_enter Tryz.func104, Tryz.ntmps104
      go_wp2_with fail
      refine (lvnanU_any _ _).mono ?_
      rintro e w' ⟨rfl, rfl⟩
      go_wp2_with fail
      refine (lvnanU_any _ _).mono ?_
      rintro e w' ⟨rfl, rfl⟩
      go_wp2_with fail
      go_ret
      exact ⟨rfl, rfl⟩
    · have d1 : decide ((x : Int) < (y : Int)) = false := decide_eq_false (by omega)
      have d2 : decide ((y : Int) < (x : Int)) = false := decide_eq_false (by omega)
      rw [if_neg h2]
      go_enter Tryz.func104, Tryz.ntmps104
      go_wp2_with fail
      refine (lvnanU_any _ _).mono ?_
      rintro e w' ⟨rfl, rfl⟩
      go_wp2_with fail
      refine (lvnanU_any _ _).mono ?_
      rintro e w' ⟨rfl, rfl⟩
      go_wp2_with fail
      go_ret
      exact ⟨rfl, rfl⟩
theorem lvcmpS_any (x y : List UInt8) (w : World) : Calls Tryz.prog 106 #[.string (bs x), .string (bs y)] w fun e w' => e = .returned (.int .i64 (cmpS x y)) ∧ w' = w := by
  have l1 : Op.bytesLess (bs x).toList (bs y).toList = decide (x < y) := by rw [lvbs_list, lvbs_list, Mm.less_eq]
  have l2 : Op.bytesLess (bs y).toList (bs x).toList = decide (y < x) := by rw [lvbs_list, lvbs_list, Mm.less_eq]
  unfold cmpS
  by_cases h : x < y
  · rw [decide_eq_true h] at l1
    rw [if_pos h]
    clear l2 h
    go_enter Tryz.func106, Tryz.ntmps106
    go_wp2_with fail
    refine (lvnanS_any _ _).mono ?_
    rintro e w' ⟨rfl, rfl⟩
    go_wp2_with fail
    refine (lvnanS_any _ _).mono ?_
    rintro e w' ⟨rfl, rfl⟩
    go_wp2_with fail
    go_ret
    exact ⟨rfl, rfl⟩
  · rw [if_neg h]
    rw [decide_eq_false h] at l1
    by_cases h2 : y < x
    · rw [if_pos h2]
      rw [decide_eq_true h2] at l2
      have l3 : ((bs x).toList == (bs y).toList) = false := by
        rw [lvbs_list, lvbs_list]
        exact beq_eq_false_iff_ne.2 (fun e => by rw [e] at h2; exact Mm.lt_irrefl _ h2)
      clear h h2
      go_enter Tryz.func106, Tryz.ntmps106
      go_wp2_with fail
      refine (lvnanS_any _ _).mono ?_
      rintro e w' ⟨rfl, rfl⟩
      go_wp2_with fail
      refine (lvnanS_any _ _).mono ?_
      rintro e w' ⟨rfl, rfl⟩
      go_wp2_with fail
      go_ret
      exact ⟨rfl, rfl⟩
    · rw [if_neg h2]
      rw [decide_eq_false h2] at l2
      have l3 : ((bs x).toList == (bs y).toList) = true := by
        rw [lvbs_list, lvbs_list, Mm.lt_total h h2]
        simp
      clear h h2
      go_enter Tryz.func106, Tryz.ntmps106
      go_wp2_with fail
      refine (lvnanS_any _ _).mono ?_
      rintro e w' ⟨rfl, rfl⟩
      go_wp2_with fail
      refine (lvnanS_any _ _).mono ?_
      rintro e w' ⟨rfl, rfl⟩
      go_wp2_with fail
      go_ret
      exact ⟨rfl, rfl⟩
/-- the order of a level's tables, as the program tells it -/
def cfm (top : Bool) (a b : Meta) : Int := if top then cmpN b.file a.file else cmpS a.first b.first
theorem cfm_lt (top : Bool) (a b : Meta) : ltOf (cfm top) a b = bef top a b := by
  unfold ltOf cfm bef cmpN cmpS
  cases top
  · by_cases h : a.first < b.first
    · simp [h]
    · by_cases h2 : b.first < a.first <;> simp [h, h2]
  · by_cases h : b.file < a.file
    · simp [h]
    · by_cases h2 : a.file < b.file <;> simp [h, h2]
theorem lvord0_any (x y : Meta) (w : World) : Calls Tryz.prog 103 #[mtv x, mtv y] w fun e w' => e = .returned (.int .i64 (cfm true x y)) ∧ ∃ q os, w' = grow (w.drewN q) os := by
  have HC := Lib.hid (fun W => lvcmpU_any y.file x.file W)
  unfold mtv
  go_enter Tryz.func103, Tryz.ntmps103
  go_wp2_with fail
  refine (HC.out _).mono ?_
  rintro e w' ⟨rfl, rfl⟩
  go_wp2_with fail
  go_ret
  exact ⟨rfl, two_grown _ _ _⟩
theorem lvord1_any (x y : Meta) (w : World) : Calls Tryz.prog 105 #[mtv x, mtv y] w fun e w' => e = .returned (.int .i64 (cfm false x y)) ∧ ∃ q os, w' = grow (w.drewN q) os := by
  have HC := Lib.hid (fun W => lvcmpS_any x.first y.first W)
  unfold mtv
  go_enter Tryz.func105, Tryz.ntmps105
  go_wp2_with fail
  refine (HC.out _).mono ?_
  rintro e w' ⟨rfl, rfl⟩
  go_wp2_with fail
  go_ret
  exact ⟨rfl, two_grown _ _ _⟩
def ordF (top : Bool) : Nat := if top then 103 else 105
theorem ord_enters (top : Bool) : ∀ args w, (callFunc (ordF top) args).run Tryz.prog w = .ok (.enter (ordF top) args) w := by
  cases top
  · exact enters_of Tryz.func105 (by kernel_rfl) rfl
  · exact enters_of Tryz.func103 (by kernel_rfl) rfl
theorem lvorder_any (l : Nat) (w : World) : Calls Tryz.prog 85 #[.int .i64 (l : Nat)] w fun e w' => e = .returned (.func (.func (ordF (l == 0))) #[] #[]) ∧ w' = w := by
  by_cases h : l = 0
  · subst h
    go_enter Tryz.func85, Tryz.ntmps85
    go_wp2_with fail
    go_ret
    exact ⟨rfl, rfl⟩
  · have d1 : ((l : Int) == 0) = false := by simp; omega
    have e1 : (l == 0) = false := by simpa using h
    rw [e1]
    go_enter Tryz.func85, Tryz.ntmps85
    go_wp2_with fail
    go_ret
    exact ⟨rfl, rfl⟩
theorem swo_cfm (top : Bool) : SWO (ltOf (cfm top)) := by
  refine ⟨fun x => ?_, fun x y z h k => ?_, fun x y z h k => ?_⟩
  · rw [cfm_lt]; unfold bef
    cases top
    · exact decide_eq_false (Mm.lt_irrefl _)
    · exact decide_eq_false (Nat.lt_irrefl _)
  · rw [cfm_lt] at *
    unfold bef at *
    cases top
    · simp only [Bool.false_eq_true, if_false, decide_eq_true_eq] at *
      exact Mm.lt_trans h k
    · simp only [if_true, decide_eq_true_eq] at *
      omega
  · rw [cfm_lt] at *
    exact bef_trans k h
theorem mtl_flat (l : List Meta) : (flatK mtc 5 l.toArray).toList = mtl l := by
  apply List.ext_getElem?
  intro t
  by_cases ht : t < l.length * 5
  · have h1 : (flatK mtc 5 l.toArray).toList[t]? = some ((flatK mtc 5 l.toArray)[t]!) := by
      rw [Array.getElem?_toList, getElem!_pos (flatK mtc 5 l.toArray) t (by simpa using ht), Array.getElem?_eq_getElem (by simpa using ht)]
    have h5 : t / 5 < l.length := by omega
    rw [h1, get_flatK _ _ _ _ (by simpa using ht)]
    have hx : l[t / 5]? = some l[t / 5] := List.getElem?_eq_getElem h5
    have hm : t % 5 < (mtc l[t / 5]).length := by simp only [mtc, List.length_cons, List.length_nil]; omega
    have hg := mtl_get hx (t % 5) _ (List.getElem?_eq_getElem hm)
    rw [show t / 5 * 5 + t % 5 = t by omega] at hg
    rw [hg]
    have e1 : (l.toArray)[t / 5]! = l[t / 5] := by simp [h5]
    rw [e1, getElem!_pos (mtc l[t / 5]) (t % 5) hm]
  · rw [List.getElem?_eq_none (by simpa using ht), List.getElem?_eq_none (by rw [mtl_len]; omega)]
theorem holdsk_row {w : World} {g : Nat} {cur : Array Value} {e : TypeId} {l : List Meta} (hb : w.heap[g]? = some (.cells cur e (0, 0))) (ht : cur.toList.take (l.length * 5) = mtl l) : HoldsK mtc 5 w g 0 l.toArray := by
  intro j hj
  have hj' : j < l.length * 5 := by simpa using hj
  refine ⟨?_, by simp [World.frozen?, hb]⟩
  have h1 : (cur.toList.take (l.length * 5))[j]? = (flatK mtc 5 l.toArray).toList[j]? := by rw [ht, mtl_flat]
  rw [List.getElem?_take_of_lt hj', Array.getElem?_toList, Array.getElem?_toList, Array.getElem?_eq_getElem (xs := flatK mtc 5 l.toArray) hj] at h1
  rw [Nat.zero_add, mcell hb j h1]
  exact congrArg some (getElem!_pos (flatK mtc 5 l.toArray) j hj).symm
theorem lvsort_own {w : World} {base : Nat} {v : Value} {l : List Meta} (h : w.ownsRow base 43 5 v l.length (mtl l)) (hl : l.length < 4611686018427387904) (top : Bool) :
    Calls Tryz.prog 84 #[v, .func (.func (ordF top)) #[] #[]] w fun e w' => e = .returned (.tuple #[]) ∧ (∃ l', l'.Perm l ∧ Srt top l' ∧ w'.ownsRow base 43 5 v l.length (mtl l')) ∧ w.grownBy w' v.ownBlock := by
  rcases h.2 with ⟨rfl, e0⟩ | ⟨g, cap, cur, rfl, hg, hb, hnc, hcm, hcs, htk⟩
  · have hl0 : l = [] := List.eq_nil_of_length_eq_zero e0
    subst hl0
    refine (AnyF.slices_SortFunc_none Tryz.sortMeta none 0 _ w).mono ?_
    rintro e w' ⟨rfl, rfl⟩
    exact ⟨rfl, ⟨[], List.Perm.refl _, List.Pairwise.nil, h⟩, ⟨rfl, rfl, rfl, Nat.le_refl _, fun _ _ _ => rfl⟩⟩
  · have hH := holdsk_row hb htk
    have hcmp : CmpLays Tryz.prog (ordF top) #[] mtc 5 (cfm top) g 0 l.toArray.size w := by
      intro m os dk hs x y
      cases top
      · exact lvord1_any x y _
      · exact lvord0_any x y _
    refine (AnyQ.slices_SortFunc Tryz.sortMeta 5 Tryz.isAgg43 Tryz.sizeOf43 mtc (fun x => rfl) (fun x v hv => by
      simp only [mtc, List.mem_cons, List.not_mem_nil, or_false] at hv
      rcases hv with rfl | rfl | rfl | rfl | rfl <;> rfl) (cfm top) (swo_cfm top) (ordF top) #[] g 0 cap l.toArray w (ord_enters top) hcmp hH (mheap_lt hb) (by simpa using hl)).mono ?_
    rintro e w' ⟨rfl, d', q, os, hp, hs, rfl⟩
    have hsz : d'.size = l.length := by simpa using hp.1
    have hcur : (sortWorldK mtc 5 w g 0 q d' os).heap[g]? = some (.cells (putCells id 0 (flatK mtc 5 d') cur) 43 (0, 0)) := by
      unfold sortWorldK
      rw [heap_grow_old _ _ (by rw [size_putRowK]; simpa using mheap_lt hb)]
      simp [putRowK, putRow, mapBlock, Sort.ahead, Array.getElem?_modify, hb, onCells]
    have hd : d' = d'.toList.toArray := by simp
    have hpl : d'.toList.Perm l := by
      have := hp.2.2
      rw [Array.extract_eq_self_of_le (by simp [hsz]), Array.extract_eq_self_of_le (by simp)] at this
      simpa using this
    refine ⟨rfl, ⟨d'.toList, hpl, ?_, ⟨by rw [mtl_len]; simp [hsz], .inr ⟨g, cap, _, rfl, hg, hcur, hnc, hcm, by simp [putCells, hcs], ?_⟩⟩⟩, ?_⟩
    · unfold Srt
      rw [List.pairwise_iff_getElem]
      intro i j hi hj hij
      have := hs i j (Nat.zero_le _) hij (by simpa [hsz] using hj)
      rw [cfm_lt] at this
      simp only [Array.length_toList] at hi hj
      simpa [getElem!_pos, hi, hj] using this
    · rw [show mtl d'.toList = (flatK mtc 5 d').toList by rw [← mtl_flat]]
      apply List.ext_getElem?
      intro j
      by_cases hj : j < l.length * 5
      · have hj2 : j < (flatK mtc 5 d').size := by rw [size_flatK, hsz]; exact hj
        rw [List.getElem?_take_of_lt hj, Array.getElem?_toList, Array.getElem?_toList]
        have hjc : j < cur.size := by rw [hcs]; omega
        rw [Array.getElem?_eq_getElem hj2]
        simp only [size_flatK] at hj2
        simp [putCells, hjc, hj2, getElem!_pos]
      · rw [List.getElem?_take_eq_none (by omega), List.getElem?_eq_none (by simp [hsz]; omega)]
    · refine ⟨rfl, rfl, rfl, by unfold sortWorldK; rw [size_grow, size_putRowK]; simp, fun k hk hne => ?_⟩
      have hk2 : g ≠ k := fun e => hne (by rw [e]; rfl)
      unfold sortWorldK
      rw [heap_grow_old _ _ (by rw [size_putRowK]; simpa using hk)]
      simp [putRowK, putRow, mapBlock, Sort.ahead, Array.getElem?_modify, hk2]
end Go.Proofs.YtnnmalpnjlnnlaaGreat
