/-
  Package level over memory: a level's tables whose ranges meet a range.
-/
import Derived.Test.YtnnmalpnjlnnlaaGreatLevelVer
import Derived.Test.YtnnmalpnjlnnlaaGreatLevelReach
import Derived.Test.YtnnmalpnjlnnlaaGreatPackMem
namespace Go.Proofs.YtnnmalpnjlnnlaaGreat
open Go.ChangeShapes Go.WideShapes Go.ChangeAt Go.RowKit
set_option linter.unusedVariables false
set_option maxRecDepth 100000
set_option maxHeartbeats 6000000
open Lv
theorem meet_step {l : List Meta} {k : Nat} {x : Meta} (h : l[k]? = some x) (a b : List UInt8) : meet (l.take (k + 1)) a b = if mt x a b = true then meet (l.take k) a b ++ [x] else meet (l.take k) a b := by
  unfold meet
  rw [List.take_add_one, h, List.filter_append]
  by_cases c : mt x a b = true <;> simp [c]
theorem meet_len (l : List Meta) (a b : List UInt8) (k : Nat) : (meet (l.take k) a b).length ≤ l.length := Nat.le_trans (List.length_filter_le _ _) (by rw [List.length_take]; omega)
theorem own_base {w : World} {B B' e size n : Nat} {v : Value} {xs : List Value} (h : w.ownsRow B e size v n xs) (hb : B' ≤ B) : w.ownsRow B' e size v n xs :=
  ⟨h.1, h.2.imp id fun ⟨r, cap, cur, h1, h2, h3⟩ => ⟨r, cap, cur, h1, Nat.le_trans hb h2, h3⟩⟩
theorem cells_new5 (w : World) (x y z q p : Value) (t : TypeId) (bl : Nat) (hb : bl = w.heap.size) : ∀ j u, [x, y, z, q, p][j]? = some u → (w.alloc (.cells #[x, y, z, q, p] t)).cell? ((⟨bl, 0, none⟩ : Addr).add j) = some u := by
  subst hb
  intro j u hj
  rw [maddr_add]
  exact mcell (malloc_new w _) j (by simpa using hj)
theorem grown_cell {ws : World} {b o : Nat} {v : Value} (hb : b < ws.heap.size) (h : ws.cell? ⟨b, o, none⟩ = some v) : ∀ n os, (Go.Sort.grow (ws.drewN n) os).cell? ⟨b, o, none⟩ = some v := fun n os => by
  rw [Go.Sort.cell?_grow _ _ _ (by simpa [World.drewN] using hb)]; exact h
theorem lvmeeting_any {T : Nat → Lvl} {w : World} (h : Tin w T) (k : Nat) (hk : k < 4) (hl : (T k).l.length ≤ 100000) (a b : List UInt8) :
    Calls Tryz.prog 54 #[tbv T, .int .i64 (k : Nat), spv a b] w fun e w' => ∃ v, e = .returned v ∧ w'.ownsRow w.heap.size 43 5 v (meet (T k).l a b).length (mtl (meet (T k).l a b)) ∧ Kept w w' := by
  obtain ⟨i0, hi, hz0, hz1, hz2⟩ := info_parts mtInfo
  have HI := Lib.hid hi; have HZ0 := Lib.hid hz0; have HZ1 := Lib.hid hz1; have HZ2 := Lib.hid hz2
  obtain ⟨A, c, l, hTk⟩ : ∃ A c l, T k = ⟨A, c, l⟩ := ⟨_, _, _, rfl⟩
  have HM : Hid (Mts w A l) := by have := h.mts k hk; rw [hTk] at this; exact this
  have hlen : l.length ≤ 100000 := by rw [hTk] at hl; exact hl
  obtain ⟨W, hW⟩ : ∃ W, W = (w.alloc (.cells #[(T 0).v, (T 1).v, (T 2).v, (T 3).v] 71)).alloc (.cells #[.string (bs a), .string (bs b)] 88) := ⟨_, rfl⟩
  have g0 : Kept w W := by rw [hW]; exact ((Kept.refl _).alloc _).alloc _
  have ht : W.cell? ⟨w.heap.size, k, none⟩ = some (.slice A l.length c) := by
    have := box_tab (w := w) T (show W.heap[w.heap.size]? = _ by rw [hW, malloc_old _ _ (by simp)]; exact malloc_new w _) k hk
    rw [hTk] at this; exact this
  have hs : W.heap[w.heap.size + 1]? = some (.cells #[.string (bs a), .string (bs b)] 88 (0, 0)) := by rw [hW, show w.heap.size + 1 = (w.alloc (.cells #[(T 0).v, (T 1).v, (T 2).v, (T 3).v] 71)).heap.size from by simp]; exact malloc_new _ _
  have hsz : W.heap.size = w.heap.size + 2 := by rw [hW]; simp
  rw [hTk]
  have HT := Lib.hid ht; have HS := Lib.hid hs; have HG := Lib.hid g0; have HW := Lib.hid hW; have HSZ := Lib.hid hsz
  clear ht hs g0 hW hi hz0 hz1 hz2 h hl hTk hsz
  unfold tbv spv
  go_enter Tryz.func54, Tryz.ntmps54
  have k1 : ((w.alloc (.cells #[(T 0).v, (T 1).v, (T 2).v, (T 3).v] 71)).alloc (.cells #[.string (bs a), .string (bs b)] 88)).cell? ⟨w.heap.size, k, none⟩ = some (.slice A l.length c) := by rw [← HW.out]; exact HT.out
  go_wp2_with fail
  rw [← HW.out]
  clear k1
  go_loopw [14, 7] (fun x v wr => ∃ j : Nat, j ≤ l.length ∧ x = .int .i64 j ∧ wr.ownsRow W.heap.size 43 5 v (meet (l.take j) a b).length (mtl (meet (l.take j) a b)) ∧ Kept W wr) (fun x _ _ => l.length - (intOf x).toNat)
  case atStart => exact ⟨0, Nat.zero_le _, rfl, World.ownsRow_nil _ _ _ _, Kept.refl _⟩
  case round =>
    obtain ⟨j, hj, rfl, hown, hkr⟩ := hrel
    by_cases hlt : j < l.length
    · obtain ⟨y, hy⟩ : ∃ y, l[j]? = some y := ⟨_, List.getElem?_eq_getElem hlt⟩
      obtain ⟨r, o, rfl, hr, c0, c1, c2, c3, c4⟩ := (Mts.kept HM.out (kept_trans HG.out hkr)) j y hy
      obtain ⟨ws, hws⟩ : ∃ ws, ws = wr.alloc (.cells #[.int .u64 (y.file : Nat), .int .i64 y.size, .string (bs y.first), .string (bs y.last), .int .u64 (y.seq : Nat)] 43) := ⟨_, rfl⟩
      have HWS := Lib.hid hws
      have hb := Below.size hkr
      have g1 : Kept W ws := by rw [hws]; exact hkr.alloc _
      have s0 := (kept_cell g1 (p := ⟨w.heap.size + 1, 0, none⟩) (by rw [HSZ.out]; show w.heap.size + 1 < _; omega)).trans (mcell HS.out 0 (v := .string (bs a)) (by rfl))
      have s1 := (kept_cell g1 (p := ⟨w.heap.size + 1, 1, none⟩) (by rw [HSZ.out]; show w.heap.size + 1 < _; omega)).trans (mcell HS.out 1 (v := .string (bs b)) (by rfl))
      have n0 : ws.heap[wr.heap.size]? = some (.cells #[.int .u64 (y.file : Nat), .int .i64 y.size, .string (bs y.first), .string (bs y.last), .int .u64 (y.seq : Nat)] 43 (0, 0)) := by rw [hws]; exact malloc_new _ _
      have q0 := mcell n0 0 (v := .int .u64 (y.file : Nat)) (by rfl)
      have q1 := mcell n0 1 (v := .int .i64 y.size) (by rfl)
      have q2 := mcell n0 2 (v := .string (bs y.first)) (by rfl)
      have q3 := mcell n0 3 (v := .string (bs y.last)) (by rfl)
      have q4 := mcell n0 4 (v := .int .u64 (y.seq : Nat)) (by rfl)
      clear hws
      go_wp2_with fail
      rw [← HWS.out]
      have hnw : wr.heap.size < ws.heap.size := mheap_lt n0
      have hsw : w.heap.size + 1 < ws.heap.size := by have := Below.size g1; rw [HSZ.out] at this; omega
      have p0 := grown_cell hsw s0
      have p1 := grown_cell hsw s1
      have m0 := grown_cell hnw q0
      have m1 := grown_cell hnw q1
      have m2 := grown_cell hnw q2
      have m3 := grown_cell hnw q3
      have m4 := grown_cell hnw q4
      have N0 := Lib.hid n0
      have C3 := Lib.hid (show meets y.first y.last a b = mt y a b from rfl)
      clear s0 s1 q0 q1 q2 q3 q4 n0 c0 c1 c2 c3 c4
      have HSP := Lib.hid (fun W => lvspan_g y W)
      have HME := Lib.hid (fun W => lvmeets_g y.first y.last a b W)
      unfold mtv spv at HSP
      unfold spv at HME
      rw [C3.out] at HME
      generalize hB : mt y a b = B at HME
      have HB := Lib.hid hB
      clear hB
      have mixed : Tryz.prog.follows .mixedOrders = true := by kernel_rfl
      go_quiet_grown (first | (go_at_call 53; refine Calls.grown_of (HSP.out _)) | (go_at_call 86; refine Calls.grown_of (HME.out _)))
      have g2 : Kept ws (Go.Sort.grow (ws.drewN nq) osq) := kept_grown ⟨nq, osq, rfl⟩
      have g3 : Kept wr ws := by rw [HWS.out]; exact (Kept.refl _).alloc _
      show Exit.then _ _ _ _ (Go.Sort.grow (ws.drewN nq) osq)
      clear p0 p1 m0 m1 m2 m3 m4
      generalize Go.Sort.grow (ws.drewN nq) osq = w2 at g2 ⊢
      have hown2 := own_kept hown (kept_trans g3 g2)
      have hST := meet_step hy a b
      rw [HB.out] at hST
      have q0 := (kept_cell g2 (p := ⟨wr.heap.size, 0, none⟩) hnw).trans (mcell N0.out 0 (v := .int .u64 (y.file : Nat)) (by rfl))
      have q1 := (kept_cell g2 (p := ⟨wr.heap.size, 1, none⟩) hnw).trans (mcell N0.out 1 (v := .int .i64 y.size) (by rfl))
      have q2 := (kept_cell g2 (p := ⟨wr.heap.size, 2, none⟩) hnw).trans (mcell N0.out 2 (v := .string (bs y.first)) (by rfl))
      have q3 := (kept_cell g2 (p := ⟨wr.heap.size, 3, none⟩) hnw).trans (mcell N0.out 3 (v := .string (bs y.last)) (by rfl))
      have q4 := (kept_cell g2 (p := ⟨wr.heap.size, 4, none⟩) hnw).trans (mcell N0.out 4 (v := .int .u64 (y.seq : Nat)) (by rfl))
      have g4 : Kept W w2 := kept_trans hkr (kept_trans g3 g2)
      have hml := meet_len l a b j
      have HST := Lib.hid hST
      clear hown hST hy
      have hb2 := Below.size g4
      cases B
      · go_wp2_with fail
        go_roundw
        case rel => exact ⟨j + 1, by omega, by go_num, by rw [HST.out]; exact hown2, g4⟩
        case measure => simp [intOf]; omega
      · generalize hX : meet (l.take j) a b = X at hown2 hml HST
        have HX2 := Lib.hid (show mtl X ++ mtc y = mtl (X ++ [y]) by rw [mtl_app]; simp [mtl])
        have HN := Lib.hid (show X.length + 1 = (X ++ [y]).length by simp)
        clear hX
        generalize mtl X = XC at hown2 HX2
        go_wp2_with (at_builtin; refine wpList_append_own _ rfl _ _ 30 rfl W.heap.size 43 i0 zmtV 5 56 Tryz.underlying30 HI.out HZ0.out HZ1.out HZ2.out rfl (by decide) _ X.length XC rfl (hown2.alloc _) ⟨w2.heap.size, 0, none⟩ 1 1 (mtc y) rfl rfl (cells_new5 _ _ _ _ _ _ _ _ rfl) (by simp [mtc, Value.oneCell']) (by unfold maxLen; omega) (by omega) (by simp; omega) ?_; intro v' w5 hown5 hg _)
        have g5 : Kept W w5 := Below.grown (g4.alloc _) hg (by simp; omega) (fun b hb => (hown2.lt b hb).1)
        rw [HX2.out, HN.out] at hown5
        go_wp2
        go_roundw
        case rel => exact ⟨j + 1, by omega, by go_num, by rw [HST.out]; exact hown5, g5⟩
        case measure => simp [intOf]; omega
    · obtain rfl : j = l.length := by omega
      rw [List.take_length] at hown
      go_wp2_with fail
      go_ret
      exact ⟨u7, rfl, own_base hown (Below.size HG.out), kept_trans HG.out hkr⟩
end Go.Proofs.YtnnmalpnjlnnlaaGreat
