/-
  FrameJoins of the statements of layer 4 returns true, whatever two lists of texts, up to 1048576 of them together.
-/
import Derived.Test.YtbaekbddfnfbeaaFrameRefAll
import Derived.Laws.AppendOwnNone
namespace Go.Proofs.Ytbaekbddfnfbeaa
open Go.ChangeShapes Go.WideShapes Go.ChangeAt Go.RowKit
set_option linter.unusedVariables false
set_option maxHeartbeats 2000000

/-- append of a list of texts onto a list of the call's own -/
theorem app_txs {ops : Array Oper} {rest : List Oper} {o : Oper} {a : Act} {Q : Exit → Act → World → Prop} {w wr : World} {v : Value} {L : List (List UInt8)} (A : Option Addr) (c : Nat) (l : List (List UInt8)) (s x : Operand)
    (hgd : o.guard = none) (ho : o.op = .call { callee := .builtin .append, args := #[s, x], argTypes := #[22, 22] })
    (hs : a.eval s = v) (hown : wr.ownsRow w.heap.size 9 1 v L.length (txc L)) (hk : Kept w wr) (hx : a.eval x = .slice A l.length c) (hA : Txs w A l) (hnil : A = none → l = [] ∧ c = 0) (hlen : L.length + l.length ≤ 4000000)
    (h : ∀ v' w1, w1.ownsRow w.heap.size 9 1 v' (L ++ l).length (txc (L ++ l)) → Kept w w1 → wpList Try.prog ops Q rest (a.put o.dst v') w1) :
    wpList Try.prog ops Q (o :: rest) a wr := by
  obtain ⟨i0, hi, hz0, hz1, hz2⟩ := info_parts ftInfo
  have hsz : w.heap.size ≤ wr.heap.size := Below.size hk
  cases A with
  | none =>
    obtain ⟨rfl, rfl⟩ := hnil rfl
    refine wpList_append_own_none hgd s x 22 ho w.heap.size 9 i0 1 Try.underlying22 hi v L.length (txc L) hs hown hx ?_
    exact h v wr (by rw [List.append_nil]; exact hown) hk
  | some ad =>
    have hnews : ∀ j u, (txc l)[j]? = some u → wr.cell? (ad.add j) = some u := fun j u hj => by
      unfold txc at hj
      rw [List.getElem?_map] at hj
      cases hx : l[j]? with
      | none => rw [hx] at hj; cases hj
      | some y =>
        rw [hx] at hj
        obtain ⟨b, o', e, hb, hc⟩ := (hA.kept hk) j y hx
        cases e
        rw [fadd_at, hc]
        exact hj
    refine wpList_append_own _ hgd s x 22 ho w.heap.size 9 i0 (.string ByteArray.empty) 1 16 Try.underlying22 hi hz0 hz1 hz2 rfl (by decide) v L.length (txc L) hs hown ad l.length c (txc l) hx (by rw [txc_len, Nat.mul_one]) hnews (fun u hu => by
      unfold txc at hu
      rw [List.mem_map] at hu
      obtain ⟨y, _, rfl⟩ := hu
      rfl) (by unfold maxLen; omega) (by omega) hsz ?_
    intro v' w1 ho1 hg _
    refine h v' w1 ?_ (Below.grown hk hg hsz (fun b hb => (hown.lt b hb).1))
    rw [List.length_append]
    unfold txc at ho1 ⊢
    rw [List.map_append]
    exact ho1
theorem bulk_texts {H : Type} : ∀ L : List (List UInt8), L.length ≤ Rows.uptoBulkAll (L.map fun b => DataW.lit (H := H) (.string b))
  | [] => Nat.zero_le _
  | b :: L => by
    have := bulk_texts (H := H) L
    simp only [List.map_cons, Rows.uptoBulkAll, Rows.uptoBulk, List.length_cons]
    omega
/-- a list of texts that comes in, and how much it counts -/
theorem open_texts_bulk {H : Type} {enc : TypeId × Value → H} {w : World} {fuel : Nat} {cs : List Value} {x : DataW H × List MemPlace} (h : DataW.trod enc Try.prog w 0 (fun _ => true) true fuel 22 cs = some x) :
    ∃ (A : Option Addr) (cap : Nat) (l : List (List UInt8)), cs = [.slice A l.length cap] ∧ Txs w A l ∧ (l.length ≤ maxLen ∧ (∀ x ∈ l, x.length ≤ maxLen) ∧ l.length ≤ cap ∧ cap ≤ maxLen) ∧ (A = none → l = [] ∧ cap = 0) ∧ l.length ≤ Rows.uptoBulk x.1 := by
  obtain ⟨A, cap, l, e, hT, hl⟩ := open_texts h
  refine ⟨A, cap, l, e, hT, hl, ?_⟩
  rcases Deep.open_strs Try.underlying22 Try.underlying9 fcellsStr h with ⟨e2, _⟩ | ⟨a, len, cap', m, S, e2, _, _, _, _, hx, _⟩
  · rw [e] at e2
    simp at e2
    exact ⟨fun _ => ⟨e2.2.1, e2.2.2⟩, by rw [e2.2.1]; simp⟩
  · rw [e] at e2
    simp at e2
    have hne : A = none → l = [] ∧ cap = 0 := by
      intro h0
      rw [e2.1] at h0
      cases h0
    refine ⟨hne, ?_⟩
    rw [hx, e2.2.1]
    have := bulk_texts (H := H) ((List.range len).map fun i => (S i).data.toList)
    rw [List.length_map, List.length_range, List.map_map] at this
    simp only [Rows.uptoBulk]
    have e3 : ((fun b => DataW.lit (H := H) (.string b)) ∘ fun i => (S i).data.toList) = fun i => DataW.lit (.string (S i).data.toList) := rfl
    rw [e3] at this
    omega
theorem join_gen (A : Option Addr) (c : Nat) (l : List (List UInt8)) (hl : l.length ≤ 2000) (hx : ∀ x ∈ l, x.length ≤ maxLen) (w : World) (hA : Txs w A l) :
    Calls Try.prog 17 #[.slice A l.length c] w fun e w' => (∃ S, e = .returned (.tuple #[.string (bs S), .int .i64 (Fr.joinE l)])) ∧ Kept w w' :=
  (join_few A c l hl hx w hA).mono fun e w' h => ⟨⟨_, h.1⟩, h.2⟩
theorem joinE_two (l : List (List UInt8)) : Fr.joinE l = 0 ∨ Fr.joinE l = 5 := by
  unfold Fr.joinE
  split
  · exact .inl rfl
  · exact .inr rfl
set_option maxRecDepth 100000 in
theorem joins_no (A B : Option Addr) (c d : Nat) (l m : List (List UInt8)) (hlen : l.length + m.length ≤ 1048576) (P : List (List UInt8)) (HP : Hid (l ++ m = P)) (hlm : P.length ≤ maxLen) (HX : Hid (∀ x ∈ l, x.length ≤ maxLen)) (HY : Hid (∀ x ∈ m, x.length ≤ maxLen)) (HXX : Hid (∀ x ∈ P, x.length ≤ maxLen))
    (hA0 : A = none → l = [] ∧ c = 0) (hB0 : B = none → m = [] ∧ d = 0) (HF : Hid (¬ (Fr.Fit l ∧ Fr.Fit m))) (w : World) (hA : Txs w A l) (hB : Txs w B m) :
    Calls Try.prog 8 #[.slice A l.length c, .slice B m.length d] w fun e w' => e = .returned (.bool true) ∧ Kept w w' := by
  have hE : ((bs []).toList == []) = true := by rw [Lib.toList_data]; rfl
  go_enter Try.func8, Try.ntmps8
  go_wp2_with fail
  refine (fawake_any _).mono ?_
  rintro e w1 ⟨rfl, g1⟩
  have hA1 := hA.kept g1
  have hB1 := hB.kept g1
  go_wp2_with (at_builtin; refine app_txs (w := w1) (L := []) A c l _ _ rfl rfl rfl (own_empty w1) ((Kept.refl w1).alloc _) rfl hA1 hA0 (by simp; omega) ?_)
  intro v2 w2 ho2 k2
  go_wp2_with (at_builtin; refine app_txs (w := w1) (L := l) B d m _ _ rfl rfl rfl ho2 k2 rfl hB1 hB0 (by omega) ?_)
  intro v3 w3 ho3 k3
  rw [HP.out] at ho3
  obtain ⟨C, f, rfl, _, hC3⟩ := txs_own ho3
  have hA3 := hA1.kept k3
  have hB3 := hB1.kept k3
  clear ho2 ho3 hA1 hB1
  go_wp2_with fail
  refine (flarge_any C f P hlm HXX.out _ hC3).mono ?_
  rintro e w4 ⟨T, rfl, hT, g4⟩
  have hA4 := hA3.kept g4
  have hB4 := hB3.kept g4
  have hC4 := hC3.kept g4
  clear hA3 hB3 hC3
  cases T with
  | true =>
    go_wp2_with fail
    go_ret
    exact ⟨rfl, kept_trans g1 (kept_trans k3 g4)⟩
  | false =>
    have h100 := hT rfl
    clear hT
    have hpl := congrArg List.length HP.out
    rw [List.length_append] at hpl
    have hll : l.length ≤ 2000 := by omega
    have hmm : m.length ≤ 2000 := by omega
    clear hpl
    have hj1 := join_gen A c l hll HX.out _ hA4
    go_wp2_with fail
    refine hj1.mono ?_
    rintro e w5 ⟨⟨S1, rfl⟩, g5⟩
    have hj2 := join_gen B d m hmm HY.out _ (hB4.kept g5)
    clear hj1
    go_wp2_with fail
    refine hj2.mono ?_
    rintro e w6 ⟨⟨S2, rfl⟩, g6⟩
    have hj3 := join_no C f P (by omega) HXX.out (fun h => HF.out (Fr.fit_app.1 (by rw [HP.out]; exact h))) _ ((hC4.kept g5).kept g6)
    clear hj2
    go_wp2_with fail
    refine hj3.mono ?_
    rintro e w7 ⟨rfl, g7⟩
    have k7 : Kept w w7 := kept_trans g1 (kept_trans k3 (kept_trans g4 (kept_trans g5 (kept_trans g6 g7))))
    by_cases hf : Fr.Fit l
    · have hg : ¬ Fr.Fit m := fun h => HF.out ⟨hf, h⟩
      obtain ⟨t, ht, h8⟩ : ∃ t, t ∈ m ∧ ¬ t.length ≤ 8000 := Classical.byContradiction fun h => hg fun t ht => Classical.byContradiction fun h' => h ⟨t, ht, h'⟩
      rw [(joinS_yes hf).2, (joinS_no ht h8).2]
      clear hf hg ht h8 hj3
      go_wp2_with fail
      go_ret
      exact ⟨rfl, k7⟩
    · obtain ⟨t, ht, h8⟩ : ∃ t, t ∈ l ∧ ¬ t.length ≤ 8000 := Classical.byContradiction fun h => hf fun t ht => Classical.byContradiction fun h' => h ⟨t, ht, h'⟩
      rw [(joinS_no ht h8).2]
      generalize Fr.joinE m = E2
      clear hf ht h8 hj3
      go_wp2_with fail
      go_ret
      exact ⟨rfl, k7⟩
set_option maxRecDepth 100000 in
theorem joins_yes (A B : Option Addr) (c d : Nat) (l m : List (List UInt8)) (hlen : l.length + m.length ≤ 1048576) (P : List (List UInt8)) (HP : Hid (l ++ m = P)) (hlm : P.length ≤ maxLen) (HXX : Hid (∀ x ∈ P, x.length ≤ maxLen))
    (hA0 : A = none → l = [] ∧ c = 0) (hB0 : B = none → m = [] ∧ d = 0) (HF : Hid (Fr.Fit l)) (HG : Hid (Fr.Fit m)) (w : World) (hA : Txs w A l) (hB : Txs w B m) :
    Calls Try.prog 8 #[.slice A l.length c, .slice B m.length d] w fun e w' => e = .returned (.bool true) ∧ Kept w w' := by
  go_enter Try.func8, Try.ntmps8
  go_wp2_with fail
  refine (fawake_any _).mono ?_
  rintro e w1 ⟨rfl, g1⟩
  have hA1 := hA.kept g1
  have hB1 := hB.kept g1
  go_wp2_with (at_builtin; refine app_txs (w := w1) (L := []) A c l _ _ rfl rfl rfl (own_empty w1) ((Kept.refl w1).alloc _) rfl hA1 hA0 (by simp; omega) ?_)
  intro v2 w2 ho2 k2
  go_wp2_with (at_builtin; refine app_txs (w := w1) (L := l) B d m _ _ rfl rfl rfl ho2 k2 rfl hB1 hB0 (by omega) ?_)
  intro v3 w3 ho3 k3
  rw [HP.out] at ho3
  obtain ⟨C, f, rfl, _, hC3⟩ := txs_own ho3
  have hA3 := hA1.kept k3
  have hB3 := hB1.kept k3
  clear ho2 ho3 hA1 hB1
  go_wp2_with fail
  refine (flarge_any C f P hlm HXX.out _ hC3).mono ?_
  rintro e w4 ⟨T, rfl, hT, g4⟩
  have hA4 := hA3.kept g4
  have hB4 := hB3.kept g4
  have hC4 := hC3.kept g4
  clear hA3 hB3 hC3
  cases T with
  | true =>
    go_wp2_with fail
    go_ret
    exact ⟨rfl, kept_trans g1 (kept_trans k3 g4)⟩
  | false =>
    have h100 := hT rfl
    clear hT
    have hfg : Fr.Fit P := by rw [← HP.out]; exact Fr.fit_app.2 ⟨HF.out, HG.out⟩
    have hmost := Fr.join_most P hfg
    have happ : Fr.join P = Fr.join l ++ Fr.join m := by rw [← HP.out]; exact Fr.join_app l m
    have hll : (Fr.join l).length + (Fr.join m).length = (Fr.join P).length := by rw [happ, List.length_append]
    have hj1 := join_fit A c l HF.out (by omega) _ hA4
    have hadd : bs (Fr.join l) ++ bs (Fr.join m) = bs (Fr.join P) := by rw [fbs_app, happ]
    have s1 : (bs (Fr.join l)).size ≤ 900000 := by rw [fbs_size]; omega
    have s2 : (bs (Fr.join m)).size ≤ 900000 := by rw [fbs_size]; omega
    have hq : (((Fr.join P).length : Int) == ((bs (Fr.join l)).size : Int) + ((bs (Fr.join m)).size : Int)) = true := by rw [fbs_size, fbs_size, beq_iff_eq]; omega
    have HB2 := Lib.hid (fun w (h : Txs w B m) => join_fit B d m HG.out (by omega) w h)
    have HC2 := Lib.hid (fun w (h : Txs w C P) => join_fit C f P hfg (by omega) w h)
    have HAL := Lib.hid (all_any (bs (Fr.join P)) (by rw [fbs_size]; omega) P [] (Fr.reads_join hfg))
    clear hfg hmost happ hll
    go_wp2_with fail
    refine hj1.mono ?_
    rintro e w5 ⟨rfl, g5⟩
    have hB5 := hB4.kept g5
    have hC5 := hC4.kept g5
    clear hj1 hA4 hB4 hC4
    go_wp2_with fail
    refine (HB2.out _ hB5).mono ?_
    rintro e w6 ⟨rfl, g6⟩
    have hC6 := hC5.kept g6
    clear hB5 hC5
    go_wp2_with fail
    refine (HC2.out _ hC6).mono ?_
    rintro e w7 ⟨rfl, g7⟩
    have hC7 := hC6.kept g7
    go_wp2_with fail
    refine (HAL.out _).mono ?_
    rintro e w8 ⟨D, i, rfl, hT8, g8⟩
    have hC8 := hC7.kept g8
    go_wp2_with fail
    refine (ftexts_any D C i f P P hlm hlm _ hT8 hC8).mono ?_
    rintro e w9 ⟨rfl, g9⟩
    rw [decide_eq_true rfl]
    go_wp2_with fail
    go_ret
    exact ⟨rfl, kept_trans g1 (kept_trans k3 (kept_trans g4 (kept_trans g5 (kept_trans g6 (kept_trans g7 (kept_trans g8 g9))))))⟩
theorem FrameJoins_walk {w : World} (A : Option Addr) (c : Nat) (l : List (List UInt8)) (B : Option Addr) (d : Nat) (m : List (List UInt8)) (hA : Txs w A l) (hl : l.length ≤ maxLen ∧ (∀ x ∈ l, x.length ≤ maxLen) ∧ l.length ≤ c ∧ c ≤ maxLen) (hB : Txs w B m) (hm : m.length ≤ maxLen ∧ (∀ x ∈ m, x.length ≤ maxLen) ∧ m.length ≤ d ∧ d ≤ maxLen)
    (hA0 : A = none → l = [] ∧ c = 0) (hB0 : B = none → m = [] ∧ d = 0) (hlen : l.length + m.length ≤ 1048576) :
    Calls Try.prog 8 #[.slice A l.length c, .slice B m.length d] w fun e w' => e = .returned (.bool true) ∧ Kept w w' := by
  have hlm : (l ++ m).length ≤ maxLen := by rw [List.length_append]; unfold maxLen; omega
  have hxx : ∀ x ∈ l ++ m, x.length ≤ maxLen := fun x hx => by
    rcases List.mem_append.1 hx with h | h
    · exact hl.2.1 x h
    · exact hm.2.1 x h
  by_cases hf : Fr.Fit l ∧ Fr.Fit m
  · exact joins_yes A B c d l m hlen (l ++ m) (Lib.hid rfl) hlm (Lib.hid hxx) hA0 hB0 (Lib.hid hf.1) (Lib.hid hf.2) w hA hB
  · exact joins_no A B c d l m hlen (l ++ m) (Lib.hid rfl) hlm (Lib.hid hl.2.1) (Lib.hid hm.2.1) (Lib.hid hxx) hA0 hB0 (Lib.hid hf) w hA hB
end Go.Proofs.Ytbaekbddfnfbeaa
