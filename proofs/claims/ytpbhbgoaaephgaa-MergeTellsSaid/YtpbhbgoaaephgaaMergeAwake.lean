/-
  The calls of layer 8 whose answers the document fixes: they are answered so; and which rows are too large to be looked at.
-/
import Derived.Test.YtpbhbgoaaephgaaMergeGet
import Derived.Test.YtpbhbgoaaephgaaMergeEs
namespace Go.Proofs.Ytpbhbgoaaephgaa
open Go.ChangeShapes Go.WideShapes Go.ChangeAt Go.RowKit
set_option linter.unusedVariables false
set_option maxRecDepth 100000
set_option maxHeartbeats 4000000

theorem rws_two {w : World} {p : Nat} {r s : Rs} {t : TypeId} {fr : Nat × Nat} (h : w.heap[p]? = some (.cells #[.slice r.A r.l.length r.c, .slice s.A s.l.length s.c] t fr)) (hr : Els w r.A r.l) (hs : Els w s.A s.l) (h1 : r.l.length ≤ 4000) (h2 : s.l.length ≤ 4000) (c1 : r.l.length ≤ r.c) (c2 : s.l.length ≤ s.c) (m1 : r.c ≤ maxLen) (m2 : s.c ≤ maxLen) : Rws w (some ⟨p, 0, none⟩) [r, s] := by
  have hm : ∀ {P : Rs → Prop}, P r → P s → ∀ x ∈ [r, s], P x := fun a b x hx => by
    rcases List.mem_cons.1 hx with rfl | hx
    · exact a
    · rw [List.mem_singleton] at hx; subst hx; exact b
  refine ⟨fun j x hx => ⟨p, 0, rfl, mheap_lt h, ?_⟩, hm hr hs, hm h1 h2, hm c1 c2, hm m1 m2⟩
  rw [Nat.zero_add]
  match j, hx with
  | 0, hx => simp at hx; subst hx; exact mcell h 0 rfl
  | 1, hx => simp at hx; subst hx; exact mcell h 1 rfl
  | j + 2, hx => simp at hx
theorem rws_one {w : World} {p : Nat} {r : Rs} {t : TypeId} {fr : Nat × Nat} (h : w.heap[p]? = some (.cells #[.slice r.A r.l.length r.c] t fr)) (hr : Els w r.A r.l) (h1 : r.l.length ≤ 4000) (c1 : r.l.length ≤ r.c) (m1 : r.c ≤ maxLen) : Rws w (some ⟨p, 0, none⟩) [r] := by
  have hm : ∀ {P : Rs → Prop}, P r → ∀ x ∈ [r], P x := fun a x hx => by rw [List.mem_singleton] at hx; subst hx; exact a
  refine ⟨fun j x hx => ⟨p, 0, rfl, mheap_lt h, ?_⟩, hm hr, hm h1, hm c1, hm m1⟩
  rw [Nat.zero_add]
  match j, hx with
  | 0, hx => simp at hx; subst hx; exact mcell h 0 rfl
  | j + 1, hx => simp at hx
def ga9 : Mm.Ent := ⟨[97], 9, false, []⟩
def gb3 : Mm.Ent := ⟨[98], 3, false, []⟩
def ga4 : Mm.Ent := ⟨[97], 4, false, []⟩
def gb3d : Mm.Ent := ⟨[98], 3, true, []⟩
def gc1 : Mm.Ent := ⟨[99], 1, false, []⟩
def gb0 : Mm.Ent := ⟨[98], 0, false, []⟩
def ga0 : Mm.Ent := ⟨[97], 0, false, []⟩
theorem gw1 : Mg.allS [[ga9, gb3], [ga4, gb3d, gc1]] = [ga9, ga4, gb3, gc1] ∧ Mg.allC [[ga9, gb3], [ga4, gb3d, gc1]] = 0 := by decide
theorem gw2 : Mg.rS [ga9, ga4, gb3, gc1] (Mg.seen [ga9, ga4, gb3, gc1] 5) = [ga4, gb3, gc1] ∧ Mg.rC [ga9, ga4, gb3, gc1] = 0 := by decide
theorem gw3 : Mg.rS [ga9, ga4, gb3, gc1] (Mg.newest [ga9, ga4, gb3, gc1] 9) = [ga9, gb3, gc1] := by decide
theorem gw4 : Mg.rS [ga9, ga4, gb3, gc1] (Mg.between [ga9, ga4, gb3, gc1] [98] [99]) = [gb3] := by decide
theorem gw5 : Mg.got [[ga9, gb3], [ga4, gb3d, gc1]] [97] 8 = some ga4 := by decide
theorem gw6 : Mg.allS [[gb0, ga0]] = [] ∧ Mg.allC [[gb0, ga0]] = 2 := by decide
theorem gw7 : Mg.row [ga9, gb3] = true ∧ Mg.row [] = true := by decide
def goX : Obj := (.cells #[.string ⟨#[97]⟩, .int .u64 4, .bool false, .string ⟨#[]⟩] 51)
def goA : Obj := (.cells #[.string ⟨#[97]⟩, .int .u64 9, .bool false, .string ⟨#[]⟩, .string ⟨#[98]⟩, .int .u64 3, .bool false, .string ⟨#[]⟩] 51)
def goB : Obj := (.cells #[.string ⟨#[97]⟩, .int .u64 4, .bool false, .string ⟨#[]⟩, .string ⟨#[98]⟩, .int .u64 3, .bool true, .string ⟨#[]⟩, .string ⟨#[99]⟩, .int .u64 1, .bool false, .string ⟨#[]⟩] 51)
def goC : Obj := (.cells #[.string ⟨#[98]⟩, .int .u64 0, .bool false, .string ⟨#[]⟩, .string ⟨#[97]⟩, .int .u64 0, .bool false, .string ⟨#[]⟩] 51)
def goR (b1 b2 : Nat) : Obj := .cells #[.slice (some ⟨b1, 0, none⟩) 2 2, .slice (some ⟨b2, 0, none⟩) 3 3] 46
def goS (b1 : Nat) : Obj := .cells #[.slice (some ⟨b1, 0, none⟩) 2 2] 46
theorem gr_two {W : World} {p b1 b2 : Nat} (h : W.heap[p]? = some (goR b1 b2)) (hA : W.heap[b1]? = some goA) (hB : W.heap[b2]? = some goB) : Rws W (some ⟨p, 0, none⟩) [⟨some ⟨b1, 0, none⟩, 2, [ga9, gb3], 0⟩, ⟨some ⟨b2, 0, none⟩, 3, [ga4, gb3d, gc1], 0⟩] :=
  rws_two h (els_lit hA rfl) (els_lit hB rfl) (by show 2 ≤ 4000; decide) (by show 3 ≤ 4000; decide) (by show 2 ≤ 2; decide) (by show 3 ≤ 3; decide) (by show 2 ≤ maxLen; decide) (by show 3 ≤ maxLen; decide)
theorem gr_one {W : World} {p b1 : Nat} (h : W.heap[p]? = some (goS b1)) (hC : W.heap[b1]? = some goC) : Rws W (some ⟨p, 0, none⟩) [⟨some ⟨b1, 0, none⟩, 2, [gb0, ga0], 0⟩] :=
  rws_one h (els_lit hC rfl) (by show 2 ≤ 4000; decide) (by show 2 ≤ 2; decide) (by show 2 ≤ maxLen; decide)
theorem gk_all {W : World} {p b1 b2 : Nat} (h : W.heap[p]? = some (goR b1 b2)) (hA : W.heap[b1]? = some goA) (hB : W.heap[b2]? = some goB) :
    Calls Try.prog 43 #[.slice (some ⟨p, 0, none⟩) 2 2] W fun e w' => ∃ B c, e = .returned (.tuple #[.slice B 4 c, .int .i64 0]) ∧ Elr W.heap.size w' B c [ga9, ga4, gb3, gc1] ∧ Kept W w' := by
  have := gall_any 2 (gr_two h hA hB) (by show 2 ≤ 1000; decide) (by show 5 ≤ 4000; decide)
  rw [show (List.map Rs.l [⟨some ⟨b1, 0, none⟩, 2, [ga9, gb3], 0⟩, ⟨some ⟨b2, 0, none⟩, 3, [ga4, gb3d, gc1], 0⟩] : List (List Mm.Ent)) = [[ga9, gb3], [ga4, gb3d, gc1]] from rfl, gw1.1, gw1.2] at this
  exact this
theorem gk_one {W : World} {p b1 : Nat} (h : W.heap[p]? = some (goS b1)) (hC : W.heap[b1]? = some goC) :
    Calls Try.prog 43 #[.slice (some ⟨p, 0, none⟩) 1 1] W fun e w' => ∃ B c, e = .returned (.tuple #[.slice B 0 c, .int .i64 2]) ∧ Kept W w' := by
  have := gall_any 1 (gr_one h hC) (by show 1 ≤ 1000; decide) (by show 2 ≤ 4000; decide)
  rw [show (List.map Rs.l [⟨some ⟨b1, 0, none⟩, 2, [gb0, ga0], 0⟩] : List (List Mm.Ent)) = [[gb0, ga0]] from rfl, gw6.1, gw6.2] at this
  exact this.mono fun e w' ⟨B, c, h1, _, h2⟩ => ⟨B, c, h1, h2⟩
theorem gk_get {W : World} {p b1 b2 : Nat} (h : W.heap[p]? = some (goR b1 b2)) (hA : W.heap[b1]? = some goA) (hB : W.heap[b2]? = some goB) :
    Calls Try.prog 45 #[.slice (some ⟨p, 0, none⟩) 2 2, .string ⟨#[97]⟩, .int .u64 8] W fun e w' => e = .returned (.tuple #[.agg #[.string ⟨#[97]⟩, .int .u64 4, .bool false, .string ⟨#[]⟩], .bool true]) ∧ Kept W w' := by
  have := gget_any 2 (gr_two h hA hB) (by show 2 ≤ 1000; decide) [97] 8
  rw [show (List.map Rs.l [⟨some ⟨b1, 0, none⟩, 2, [ga9, gb3], 0⟩, ⟨some ⟨b2, 0, none⟩, 3, [ga4, gb3d, gc1], 0⟩] : List (List Mm.Ent)) = [[ga9, gb3], [ga4, gb3d, gc1]] from rfl, gw5] at this
  exact this
theorem gk_seen {W : World} {B : Option Addr} (c : Nat) (h : Els W B [ga9, ga4, gb3, gc1]) :
    Calls Try.prog 47 #[.slice B 4 c, .int .u64 5] W fun e w' => ∃ B' c', e = .returned (.tuple #[.slice B' 3 c', .int .i64 0]) ∧ Els w' B' [ga4, gb3, gc1] ∧ Kept W w' := by
  have := gseen_any c h (by decide) 5
  rw [gw2.1, gw2.2] at this
  exact this.mono fun e w' ⟨B, c, h1, h2, h3⟩ => ⟨B, c, h1, h2.els, h3⟩
theorem gk_newest {W : World} {B : Option Addr} (c : Nat) (h : Els W B [ga9, ga4, gb3, gc1]) :
    Calls Try.prog 51 #[.slice B 4 c, .int .u64 9] W fun e w' => ∃ B' c', e = .returned (.tuple #[.slice B' 3 c', .int .i64 0]) ∧ Els w' B' [ga9, gb3, gc1] ∧ Kept W w' := by
  have := gnewest_any c h (by decide) 9
  rw [gw3, gw2.2] at this
  exact this.mono fun e w' ⟨B, c, h1, h2, h3⟩ => ⟨B, c, h1, h2.els, h3⟩
theorem gk_between {W : World} {B : Option Addr} (c : Nat) (h : Els W B [ga9, ga4, gb3, gc1]) :
    Calls Try.prog 53 #[.slice B 4 c, .string ⟨#[98]⟩, .string ⟨#[99]⟩] W fun e w' => ∃ B' c', e = .returned (.tuple #[.slice B' 1 c', .int .i64 0]) ∧ Kept W w' := by
  have := gbetween_any c h (by decide) [98] [99]
  rw [gw4, gw2.2] at this
  exact this.mono fun e w' ⟨B, c, h1, h2, h3⟩ => ⟨B, c, h1, h3⟩
theorem gk_row {W : World} {b : Nat} (h : W.heap[b]? = some goA) : Calls Try.prog 49 #[.slice (some ⟨b, 0, none⟩) 2 2] W fun e w' => e = .returned (.bool true) ∧ Kept W w' := by
  have := grow_any (some ⟨b, 0, none⟩) 2 [ga9, gb3] (by decide) W (els_lit h rfl)
  rw [gw7.1] at this
  exact this
theorem gk_nil (W : World) : Calls Try.prog 49 #[.slice none 0 0] W fun e w' => e = .returned (.bool true) ∧ Kept W w' := by
  have := grow_any none 0 [] (by decide) W (fun j x hx => by simp at hx)
  rw [gw7.2] at this
  exact this
theorem three_new (w : World) (a b c : Obj) : Kept w (((w.alloc a).alloc b).alloc c) ∧ (((w.alloc a).alloc b).alloc c).heap[w.heap.size]? = some a ∧ (((w.alloc a).alloc b).alloc c).heap[w.heap.size + 1]? = some b ∧ (((w.alloc a).alloc b).alloc c).heap[w.heap.size + 2]? = some c := by
  refine ⟨(((Kept.refl w).alloc _).alloc _).alloc _, (malloc_old _ _ (by simp only [malloc_size]; omega)).trans ((malloc_old _ _ (by simp only [malloc_size]; omega)).trans (malloc_new w _)), (malloc_old _ _ (by simp only [malloc_size]; omega)).trans ?_, ?_⟩
  · have := malloc_new (w.alloc a) b; rwa [malloc_size] at this
  · have := malloc_new ((w.alloc a).alloc b) c; rwa [malloc_size, malloc_size] at this
theorem gtwo_new (w : World) (a b : Obj) : Kept w ((w.alloc a).alloc b) ∧ ((w.alloc a).alloc b).heap[w.heap.size]? = some a ∧ ((w.alloc a).alloc b).heap[w.heap.size + 1]? = some b := by
  refine ⟨((Kept.refl w).alloc _).alloc _, (malloc_old _ _ (by simp only [malloc_size]; omega)).trans (malloc_new w _), ?_⟩
  have := malloc_new (w.alloc a) b; rwa [malloc_size] at this
theorem gmawake_any (w : World) : Calls Try.prog 41 #[] w fun e w' => e = .returned (.bool true) ∧ Kept w w' := by
  have h3 := three_new w goA goB (goR w.heap.size (w.heap.size + 1))
  have H3 := Lib.hid h3
  unfold goA goB goR at h3
  go_enter Try.func41, Try.ntmps41
  go_wp2_with fail
  obtain ⟨g1, hA1, hB1, hR1⟩ := H3.out
  clear H3 h3
  have HC1 := Lib.hid (gk_all hR1 hA1 hB1)
  have GA := Lib.hid hA1; have GB := Lib.hid hB1; have GG := Lib.hid g1
  clear g1 hA1 hB1 hR1
  unfold goA goB goR at HC1 GA GB GG
  generalize ((w.alloc _).alloc _).alloc _ = w1 at *
  refine HC1.out.mono ?_
  rintro e w2 ⟨B, c, rfl, hel, g2⟩
  have HE := Lib.hid hel.els; have G2 := Lib.hid g2
  clear hel g2
  go_wp2_with fail
  refine (gk_seen c HE.out).mono ?_
  rintro e w3 ⟨B3, c3, rfl, hel3, g3⟩
  have HE3 := Lib.hid hel3; have G3 := Lib.hid g3
  clear hel3 g3
  go_wp2_with fail
  refine (gk_newest c (HE.out.kept G3.out)).mono ?_
  rintro e w4 ⟨B4, c4, rfl, hel4, g4⟩
  have HE4 := Lib.hid hel4; have G4 := Lib.hid g4
  clear hel4 g4
  go_wp2_with fail
  refine (gk_between c ((HE.out.kept G3.out).kept G4.out)).mono ?_
  rintro e w5 ⟨B5, c5, rfl, g5⟩
  have G5 := Lib.hid g5
  clear g5
  have G15 := Lib.hid (kept_trans G2.out (kept_trans G3.out (kept_trans G4.out G5.out)))
  have GA5 := Lib.hid ((Below.block G15.out _ (mheap_lt GA.out)).trans GA.out)
  have GB5 := Lib.hid ((Below.block G15.out _ (mheap_lt GB.out)).trans GB.out)
  go_wp2_with fail
  have k6 : Kept w5 (w5.alloc (goR w.heap.size (w.heap.size + 1))) := (Kept.refl _).alloc _
  have HC6 := Lib.hid (gk_get (malloc_new w5 (goR w.heap.size (w.heap.size + 1))) ((Below.block k6 _ (mheap_lt GA5.out)).trans GA5.out) ((Below.block k6 _ (mheap_lt GB5.out)).trans GB5.out))
  have K6 := Lib.hid k6
  clear k6
  unfold goR at HC6 K6
  refine HC6.out.mono ?_
  rintro e w6 ⟨rfl, g6⟩
  have G6 := Lib.hid g6
  clear g6
  go_wp2_with fail
  have h8 := three_new w6 goX goC (goS (w6.heap.size + 1))
  obtain ⟨g7, hX7, hC7, hS7⟩ := h8
  have HC8 := Lib.hid (gk_one hS7 hC7)
  have GX := Lib.hid hX7; have G7 := Lib.hid g7
  clear g7 hX7 hC7 hS7
  unfold goX goC goS at HC8 GX G7
  generalize ((w6.alloc _).alloc _).alloc _ = w7 at *
  refine HC8.out.mono ?_
  rintro e w8 ⟨B8, c8, rfl, g8⟩
  have G8 := Lib.hid g8
  have k38 : Kept w3 w8 := kept_trans G4.out (kept_trans G5.out (kept_trans K6.out (kept_trans G6.out (kept_trans G7.out g8))))
  have k28 := kept_trans G3.out k38
  have k48 : Kept w4 w8 := kept_trans G5.out (kept_trans K6.out (kept_trans G6.out (kept_trans G7.out g8)))
  have HK := Lib.hid (kept_trans GG.out (kept_trans G2.out k28))
  obtain ⟨b1, o1, rfl, _, _, p1, _, _⟩ := (HE.out.kept k28) 1 ga4 rfl
  obtain ⟨b2, o2, e2, _, _, _, p2, _⟩ := (HE.out.kept k28) 2 gb3 rfl
  cases e2
  obtain ⟨b3, o3, rfl, _, _, p3, _, _⟩ := (HE3.out.kept k38) 0 ga4 rfl
  obtain ⟨b4, o4, rfl, _, _, p4, _, _⟩ := (HE4.out.kept k48) 0 ga9 rfl
  have p5 := mcell (v := .int .u64 4) ((Below.block g8 _ (mheap_lt GX.out)).trans GX.out) 1 rfl
  rw [show ((ga4.seq : Nat) : Int) = 4 from rfl] at p1 p3
  rw [show ((ga9.seq : Nat) : Int) = 9 from rfl] at p4
  rw [show gb3.del = false from rfl] at p2
  have k18 := kept_trans G2.out k28
  have HRA := Lib.hid (gk_row ((Below.block k18 _ (mheap_lt GA.out)).trans GA.out))
  clear g8 k38 k28 k48 k18
  go_wp2_with fail
  refine HRA.out.mono ?_
  rintro e w9 ⟨rfl, g9⟩
  go_wp2_with fail
  refine (gk_nil w9).mono ?_
  rintro e w10 ⟨rfl, g10⟩
  go_wp2_with fail
  go_ret
  exact ⟨rfl, kept_trans HK.out (kept_trans g9 g10)⟩
end Go.Proofs.Ytpbhbgoaaephgaa
