/-
  FsCrash of the statements of layer 3 returns true, whatever acts, whatever a second crash keeps.
-/
import Derived.Test.YtomgbanpldecfaaFsLawLoose
namespace Go.Proofs.Ytomgbanpldecfaa
open Go.ChangeShapes Go.WideShapes Go.ChangeAt Go.RowKit Go.Maps
set_option linter.unusedVariables false
set_option maxHeartbeats 400000

theorem infoNum : (Try.prog.info? 3).map (fun i => (i.zero, i.size, i.bytes)) = some (some (.int .i64 0), 1, 8) := by kernel_rfl
theorem own_lit_num (w : World) : (w.alloc (.cells #[] 3)).ownsRow w.heap.size 3 1 (.slice (some ⟨w.heap.size, 0, none⟩) 0 0) 0 [] :=
  ⟨by simp, .inr ⟨w.heap.size, 0, #[], rfl, Nat.le_refl _, heap_alloc_new w _, Nat.le_refl _, Nat.zero_le _, by simp, by simp⟩⟩
theorem own_low {w : World} {base base' : Nat} {e : TypeId} {size : Nat} {v : Value} {n : Nat} {xs : List Value} (h : w.ownsRow base e size v n xs) (hb : base' ≤ base) : w.ownsRow base' e size v n xs := by
  refine ⟨h.1, ?_⟩
  rcases h.2 with h0 | ⟨g, cap, cur, hv, hg, r⟩
  · exact .inl h0
  · exact .inr ⟨g, cap, cur, hv, Nat.le_trans hb hg, r⟩
theorem ints_own {w : World} {base n c : Nat} {A : Option Addr} {l : List Int} (h : w.ownsRow base 3 1 (.slice A n c) n (l.map (Value.int .i64))) (K : Nat → Prop) (hK : ∀ r, (Value.slice A n c).ownBlock = some r → K r) (hn : l.length = n) : IntsAt K w (.slice A n c) l := by
  subst hn
  refine ⟨A, c, rfl, fun hne => ?_⟩
  rcases h.2 with ⟨_, e0⟩ | ⟨r, cap, cur, e, hbs, hb, hnc, _, _, htk⟩
  · exact absurd (List.eq_nil_of_length_eq_zero e0) hne
  · cases e
    refine ⟨r, 0, rfl, hK r rfl, fun j hj => ?_⟩
    rw [Nat.zero_add]
    refine cell_of hb j ?_
    have e1 : (cur.toList.take (l.length * 1))[j]? = some (.int .i64 l[j]) := by rw [htk]; simp [hj]
    rw [List.getElem?_take] at e1
    split at e1
    · simpa using e1
    · cases e1
theorem crash_tail {m : Fs.Dsk} (hg : Fs.Good m) (hp : m.pend.length ≤ 1073741824) (ht : Fs.tot m.files ≤ 1073741824) (n : Int) (keep : List Int) :
    (Fs.crash (Fs.crash m 1073741824 (List.replicate m.names.length 1073741824)) n keep).names = m.names ∧ ∀ p ∈ m.names, Fs.read (Fs.crash (Fs.crash m 1073741824 (List.replicate m.names.length 1073741824)) n keep) p.1 = ((Fs.fileAt m p.2).bytes, 0) := by
  have hlen : ∀ i, (Fs.fileAt m i).bytes.length ≤ 1073741824 := fun i => by
    by_cases hi : i < m.files.length
    · exact Nat.le_trans (Fs.getD_le_tot _ _ _ (Fs.fileAt_of hi)) ht
    · unfold Fs.fileAt; rw [List.getElem?_eq_none (by omega)]; simp [Fs.noFile]
  obtain ⟨h1, h2, h3⟩ := Fs.crash_all hg 1073741824 (List.replicate m.names.length 1073741824) (by omega) (fun j hj i => by
    rw [List.getElem?_replicate, if_pos hj]
    have := hlen i
    simp only [Option.getD_some]
    omega)
  have hg1 := hg.crash 1073741824 (List.replicate m.names.length 1073741824)
  obtain ⟨q1, q2⟩ := Fs.crash_quiet hg1 h2 (Fs.crash_sure hg _ _) n keep
  refine ⟨q1.trans h1, fun p hp' => ?_⟩
  have hp1 : p ∈ (Fs.crash m 1073741824 (List.replicate m.names.length 1073741824)).names := by rw [h1]; exact hp'
  unfold Fs.read
  rw [q1, h1, Fs.dget_of_mem hg.dir.rise (i := p.2) hp']
  simp only
  rw [q2 p hp1, h3 p hp']
set_option maxRecDepth 100000 in
set_option maxHeartbeats 8000000 in
theorem FsCrash_walk (A : Option Addr) (cap : Nat) (l : List FsAct) (n : Int) (KA : Option Addr) (kcap : Nat) (keep : List Int) {w : World} (ha : ActsIn w.heap.size w A l) (hll : l.length ≤ maxLen) (hnw' : (Lit.int .i64 n).wf = true) (hkv : IntsAt (fun i => i < w.heap.size) w (.slice KA keep.length kcap) keep) (hkl : keep.length ≤ maxLen) :
    Calls Try.prog 6 #[.slice A l.length cap, .int .i64 n, .slice KA keep.length kcap] w fun e w' => e = .returned (.bool true) ∧ Kept w w' := by
  unfold maxLen at hkl
  unfold maxLen at hll
  have hnw : ∀ W, Kept w W → Calls Try.prog 9 #[] W fun e w' => ∃ p, e = .returned (.pointer (some ⟨p, 0, none⟩)) ∧ Dk (fun b => b < w.heap.size) w' p Fs.new ∧ Kp (fun b => b < w.heap.size) W w' := fun W hW => new_any (fun b hb => Nat.lt_of_lt_of_le hb (Below.size hW))
  go_enter Try.func6, Try.ntmps6
  go_wp2_with (first
    | (go_at_call 8; refine (awake_any _).mono ?_; rintro e w1 ⟨rfl, g1⟩)
    | (go_at_call 9; refine (hnw _ g1).mono ?_; rintro e w2 ⟨p, rfl, d2, k2⟩))
  clear hnw
  have kw2 : Kp (fun b => b < w.heap.size) w w2 := (kp_kept g1 (fun b hb => hb)).trans k2
  clear k2 g1
  go_loopw [8] (fun t wr => ∃ (k : Nat) (m : Fs.Dsk), k ≤ l.length ∧ k ≤ 100 ∧ t = .int .i64 k ∧ Dk (fun b => b < w.heap.size) wr p m ∧ Fs.tot m.files ≤ 1000 * k ∧ m.pend.length ≤ k ∧ Hid (Fs.Off m) ∧ Kp (fun b => b < w.heap.size) w wr) (fun t _ => l.length - (intOf t).toNat)
  case atStart => exact ⟨0, Fs.new, Nat.zero_le _, by omega, rfl, d2, by simp [Fs.new, Fs.tot], by simp [Fs.new], ⟨rfl, rfl⟩, kw2⟩
  case round =>
    obtain ⟨k, m, hk1, hk2, rfl, ⟨G, h⟩, htot, hpend, HO, kw⟩ := hrel
    clear d2 kw2
    by_cases hlt : k < l.length ∧ k < 100
    · obtain ⟨hlt, hlt2⟩ := hlt
      obtain ⟨x, hx⟩ : ∃ x, l[k]? = some x := ⟨_, List.getElem?_eq_getElem hlt⟩
      obtain ⟨b', o, hA, hact⟩ := (ha.kp kw) k x hx
      subst hA
      obtain ⟨hbB, c0, c1, c2, c3, ⟨ka, kc, c4, hks⟩, n1, a1, b1, kk1⟩ := hact
      have hlg := large_any x ka kc kk1 a1 b1
      cases hL : x.large
      · have hlg' : ∀ W, Calls Try.prog 10 #[.agg #[.int .i64 x.kind, .int .i64 x.n, .string x.a, .string x.b, .slice ka x.k.length kc]] W fun e w' => e = .returned (.bool false) ∧ Kept W w' := fun W => by have := hlg W; rw [hL] at this; exact this
        obtain ⟨hs1, hs2, hs3⟩ := large_no hL
        have HFT := Lib.hid (fplay_tot m x)
        have HFO := Lib.hid (fun h6 => fplay_off HO.out x h6)
        clear hlg hL hx
        have hbl : x.b.data.toList.length = x.b.size := by simp
        have HBL := Lib.hid hbl; clear hbl
        go_wp2_with fail
        refine (hlg' _).mono ?_
        rintro e w3 ⟨rfl, g3⟩
        have kw3 := kw.trans (kp_kept g3 h.lt)
        have hc3 : ∀ j, w3.cell? ⟨b', j, none⟩ = wr.cell? ⟨b', j, none⟩ := fun j => kept_cell g3 (p := ⟨b', j, none⟩) (Nat.lt_of_lt_of_le hbB kw.size)
        have y0 := (hc3 _).trans c0
        have y1 := (hc3 _).trans c1
        have y2 := (hc3 _).trans c2
        have y3 := (hc3 _).trans c3
        have y4 := (hc3 _).trans c4
        clear hc3 c0 c1 c2 c3 c4
        have hpl := play_any (h.kept g3) x ka kc (hks.kp (kp_kept g3 h.lt)) hs3 a1 b1 n1 (by rw [HBL.out]; omega) (by omega)
        by_cases h6 : x.kind = 6
        · have e6 : (x.kind == 6) = true := by simp [h6]
          clear h6
          go_wp2
          go_roundw
          case rel => exact ⟨k + 1, m, by omega, by omega, by go_num, ⟨G, h.kept g3⟩, by omega, by omega, HO, kw3⟩
          case measure => simp [intOf]; omega
        · have e6 : (x.kind == 6) = false := by simpa using h6
          go_wp2_with fail
          refine hpl.mono ?_
          rintro e w6 ⟨rfl, d6, k6⟩
          have htot6 : Fs.tot (fplay m x).1.files ≤ 1000 * (k + 1) := by have := HFT.out.1; rw [HBL.out] at this; omega
          have hpend6 : (fplay m x).1.pend.length ≤ k + 1 := by have := HFT.out.2; omega
          go_wp2
          go_roundw
          case rel => exact ⟨k + 1, _, by omega, by omega, by go_num, d6, htot6, hpend6, HFO.out h6, kw3.trans k6⟩
          case measure => simp [intOf]; omega
      · have hlg' : ∀ W, Calls Try.prog 10 #[.agg #[.int .i64 x.kind, .int .i64 x.n, .string x.a, .string x.b, .slice ka x.k.length kc]] W fun e w' => e = .returned (.bool true) ∧ Kept W w' := fun W => by have := hlg W; rw [hL] at this; exact this
        clear hlg hL hx
        go_wp2_with (go_at_call 10; refine (hlg' _).mono ?_; rintro e w3 ⟨rfl, g3⟩)
        go_ret
        exact ⟨rfl, kept_trans (kw.below (fun i hi => hi)) g3⟩
    · by_cases hlt' : k < l.length
      · have hk100 : ¬ (k < 100) := by omega
        clear hlt
        go_wp2_with fail
        refine (list_of h rfl).mono ?_
        rintro e w3 ⟨na, nc, rfl, o3, g3⟩
        have kw3 : Kp (fun b => b < w.heap.size) w w3 := kw.trans (kp_kept g3 h.lt)
        obtain ⟨Kn, hKn1, hKn2, hst3, hd3⟩ : ∃ Kn : Nat → Prop, (∀ b, b < w.heap.size → Kn b) ∧ (∀ b, Kn b → b < w3.heap.size) ∧ StrsAt Kn w3 na (Fs.list m) ∧ IsDisk Kn w3 p G m :=
          ⟨fun b => b < w.heap.size ∨ (wr.heap.size ≤ b ∧ b < w3.heap.size), fun b hb => .inl hb, (h.wide g3).lt, strs_of o3 _ (fun b h1 h2 => .inr ⟨h1, h2⟩), h.wide g3⟩
        have hgood := h.good
        have hfew := h.good.dir.few
        obtain ⟨hn4, hr4⟩ := crash_tail hgood (by omega) (by omega) n keep
        have HR4 := Lib.hid hr4; have HN4 := Lib.hid hn4
        obtain ⟨i0, hi, hz0, hz1, hz2⟩ := info_parts infoStr
        have HI := Lib.hid hi; have HZ0 := Lib.hid hz0; have HZ1 := Lib.hid hz1; have HZ2 := Lib.hid hz2
        obtain ⟨i1, hi', hz0', hz1', hz2'⟩ := info_parts infoNum
        have JI := Lib.hid hi'; have JZ0 := Lib.hid hz0'; have JZ1 := Lib.hid hz1'; have JZ2 := Lib.hid hz2'
        clear hi hz0 hz1 hz2 hi' hz0' hz1' hz2' o3 h kw g3 hr4 hn4
        go_wp2
        clear wr
        go_loopw [10, 11, 55] (fun v kv t wr => ∃ (q : Nat) (K' : Nat → Prop), q ≤ m.names.length ∧ t = .int .i64 q ∧ IsDisk K' wr p G m ∧ (∀ b, Kn b → K' b) ∧ (∀ r, v.ownBlock = some r → K' r) ∧ (∀ r, kv.ownBlock = some r → K' r) ∧ wr.ownsRow w3.heap.size 9 1 v q (((m.names.take q).map (fun p => (Fs.fileAt m p.2).bytes)).map Go.Proofs.encStr) ∧ wr.ownsRow w3.heap.size 3 1 kv q ((List.replicate q (1073741824 : Int)).map (Value.int .i64)) ∧ Kp Kn w3 wr) (fun _ _ t _ => m.names.length - (intOf t).toNat)
        case atStart =>
          have e1 : (w3.alloc (.cells #[] 9)).heap.size = w3.heap.size + 1 := by simp
          have o1 := own_lit_num (w3.alloc (.cells #[] 9))
          rw [e1] at o1
          exact ⟨0, _, Nat.zero_le _, rfl, hd3.wide (((Kept.refl w3).alloc _).alloc _), fun b hb => .inl hb, fun r hr => .inr (by simp [Value.ownBlock] at hr; subst hr; simp; omega), fun r hr => .inr (by simp [Value.ownBlock] at hr; subst hr; simp), (own_lit_str w3).alloc _, own_low o1 (by omega), kp_kept (((Kept.refl w3).alloc _).alloc _) hd3.lt⟩
        case round =>
          obtain ⟨q, K', hq, rfl, hdq, hKK, hKv, hKw, hown, hownk, kq⟩ := hrel
          have hstq := hst3.kp kq
          by_cases hql : q < m.names.length
          · have hpq : m.names[q]? = some m.names[q] := List.getElem?_eq_getElem hql
            have hmem : m.names[q] ∈ m.names := List.getElem_mem hql
            have hread := read_name hgood (m' := m) rfl (fun _ => rfl) hmem
            have hmay := (hgood.dir.each _ hmem).1
            have htk : (m.names.take (q + 1)).map (fun p => (Fs.fileAt m p.2).bytes) = (m.names.take q).map (fun p => (Fs.fileAt m p.2).bytes) ++ [(Fs.fileAt m m.names[q].2).bytes] := by rw [List.take_add_one, hpq, List.map_append]; rfl
            obtain ⟨r, hna, hKr, hcr⟩ := hstq q m.names[q].1 (by unfold Fs.list; rw [List.getElem?_map, hpq]; rfl)
            have hblen := Fs.fileAt_len hgood m.names[q].2
            generalize m.names[q] = x at hread hmay htk hcr hblen
            obtain ⟨xn, xi⟩ := x
            simp only at hread hmay htk hcr hblen
            subst hna
            have hnl : (bs xn).size ≤ maxLen := by rw [bs_len]; have := (Fs.may_le hmay).2; unfold maxLen; omega
            have hrd := read_of hdq (bs xn) hnl hread
            have HTK := Lib.hid htk
            have hr3 : r < w3.heap.size := hKn2 r hKr
            clear htk hread hpq hmem hmay
            go_wp2_with fail
            refine hrd.mono ?_
            rintro e w4 ⟨rfl, rfl⟩
            generalize (Fs.fileAt m xi).bytes = yb at HTK hblen
            have tok1 : True := trivial
            go_wp2_with (first
              | (at_builtin; have _t := tok1; refine wpList_append_own_at _ rfl _ _ 39 rfl w3.heap.size 9 i0 (.string ByteArray.empty) 1 16 Try.underlying39 HI.out HZ0.out HZ1.out HZ2.out rfl (by decide) u10 q _ rfl (hown.alloc _) ⟨wr.heap.size, 0, none⟩ 1 1 [.string (bs yb)] rfl rfl (cell_one_new _ _ _) (by simp [Value.oneCell']) (by unfold maxLen; omega) (by omega) (by have := kq.size; simp; omega) ?_; intro v' w5 hown' hgrow hnil hloc; clear tok1; have hgw := (World.grownBy_alloc wr (.cells #[.string (bs yb)] 9) u10.ownBlock).trans hgrow; have hownk5 := own_same hownk (fun r' hr' => hgw.block r' (hownk.lt r' hr').2 (fun e => by { obtain ⟨ca, hca⟩ := own_blk hown e.symm; obtain ⟨cb, hcb⟩ := own_blk hownk hr'; rw [hca] at hcb; cases hcb })))
              | (at_builtin; refine wpList_append_own_at _ rfl _ _ 23 rfl w3.heap.size 3 i1 (.int .i64 0) 1 8 Try.underlying23 JI.out JZ0.out JZ1.out JZ2.out rfl (by decide) u11 q _ rfl (hownk5.alloc _) ⟨w5.heap.size, 0, none⟩ 1 1 [.int .i64 1073741824] rfl rfl (cell_one_new _ _ _) (by simp [Value.oneCell']) (by unfold maxLen; omega) (by omega) (by have := kq.size; have := hgw.size; simp; omega) ?_; intro kv' w6 hownk' hgrowk hnilk hlock; have hgwk := (World.grownBy_alloc w5 (.cells #[.int .i64 1073741824] 3) u11.ownBlock).trans hgrowk))
            have hown6 := own_same hown' (fun r' hr' => hgwk.block r' (hown'.lt r' hr').2 (fun e => by
              obtain ⟨ca, hca⟩ := own_blk hownk5 e.symm
              obtain ⟨cb, hcb⟩ := own_blk hown' hr'
              rw [hca] at hcb; cases hcb))
            have hd5 := hdq.grownK hgw hKv
            have hd6 := hd5.grownK hgwk (fun r' hr' => .inl (hKw r' hr'))
            have hsz5 := hgw.size
            have hsz6 := hgwk.size
            go_wp2
            go_roundw
            case rel =>
              refine ⟨q + 1, _, by omega, by go_num, hd6, fun b hb => .inl (.inl (hKK b hb)), fun r' hr' => ?_, fun r' hr' => ?_, ?_, ?_, ?_⟩
              · rcases hloc with e | e
                · exact .inl (.inl (hKv r' (by rw [← e]; exact hr')))
                · rw [e] at hr'
                  simp at hr'
                  have := (hown'.lt r' (by rw [e]; simp [hr'])).2
                  exact .inl (.inr ⟨by omega, this⟩)
              · rcases hlock with e | e
                · exact .inl (.inl (hKw r' (by rw [← e]; exact hr')))
                · rw [e] at hr'
                  simp at hr'
                  have := (hownk'.lt r' (by rw [e]; simp [hr'])).2
                  exact .inr ⟨by omega, this⟩
              · rw [HTK.out, List.map_append]
                exact hown6
              · rw [List.replicate_succ', List.map_append]
                exact hownk'
              · exact (kq.trans (kp_grown hgw (fun b hb => hdq.lt b (hKK b hb)) (fun r' hr' hk' => by have := (hown.lt r' hr').1; have := hKn2 r' hk'; omega))).trans (kp_grown hgwk (fun b hb => hd5.lt b (.inl (hKK b hb))) (fun r' hr' hk' => by have := (hownk5.lt r' hr').1; have := hKn2 r' hk'; omega))
            case measure => simp [intOf]; omega
          · have hqe : q = m.names.length := by omega
            subst hqe
            obtain ⟨va, vc, rfl⟩ := own_shape hown
            obtain ⟨kva, kvc, rfl⟩ := own_shape hownk
            rw [List.take_length] at hown
            have hall : StrsAt K' wr va (m.names.map (fun p => (Fs.fileAt m p.2).bytes)) := strs_own hown K' hKv
            have hkk : IntsAt K' wr (.slice kva m.names.length kvc) (List.replicate m.names.length 1073741824) := ints_own hownk K' hKw (by simp)
            have hc1 := crash_any hdq 1073741824 _ _ (by simp; omega) hkk
            have HCR := Lib.hid hc1
            have hkeep : IntsAt K' w3 (.slice KA keep.length kcap) keep := (hkv.kp kw3).mono (fun b hb => hKK b (hKn1 b hb))
            clear hc1 hkk hown hownk hKv hKw hst3 HI HZ0 HZ1 HZ2 JI JZ0 JZ1 JZ2
            go_wp2_with fail
            refine HCR.out.mono ?_
            rintro e w5 ⟨rfl, ⟨G5, h5⟩, k5⟩
            have hkeep5 : IntsAt K' w5 (.slice KA keep.length kcap) keep := ((((hkv.kp kw3).mono hKn1).kp kq).mono hKK).kp k5
            have hc2 := crash_any h5 n _ keep (by omega) hkeep5
            go_wp2_with fail
            refine hc2.mono ?_
            rintro e w7 ⟨rfl, ⟨G7, h7⟩, k7⟩
            have hli4 : Fs.list (Fs.crash (Fs.crash m 1073741824 (List.replicate m.names.length 1073741824)) n keep) = Fs.list m := by unfold Fs.list; rw [HN4.out]
            have hnl4 : (Fs.crash (Fs.crash m 1073741824 (List.replicate m.names.length 1073741824)) n keep).names.length = m.names.length := by rw [HN4.out]
            have HLI := Lib.hid hli4; have HNL := Lib.hid hnl4; clear hli4 hnl4
            go_wp2_with fail
            refine (list_of h7 HNL.out).mono ?_
            rintro e w8 ⟨oa, oc, rfl, o8, g8⟩
            have k8 := kp_kept g8 h7.lt
            have h8 := h7.kept g8
            rw [HLI.out] at o8
            have hnow := strs_of o8 (fun b => b < w8.heap.size) (fun b _ hb => hb)
            have kk8 := (k5.trans k7).trans k8
            have hst8 : StrsAt K' w8 na (Fs.list m) := (hstq.mono hKK).kp kk8
            have hall8 := hall.kp kk8
            have kfin : Kp (fun b => b < w.heap.size) w w8 := kw3.trans ((kq.mono hKn1).trans (kk8.mono (fun b hb => hKK b (hKn1 b hb))))
            clear o8
            go_wp2
            clear hdq hstq hall kq h5 h7 k5 k7 k8 kk8 g8 hc2 HCR hkeep5
            clear wr
            go_loopw [91] (fun t wr => ∃ q : Nat, q ≤ m.names.length ∧ t = .int .i64 q ∧ Kept w8 wr) (fun t _ => m.names.length - (intOf t).toNat)
            case atStart => exact ⟨0, Nat.zero_le _, rfl, Kept.refl _⟩
            case round =>
              obtain ⟨q, hq', rfl, hkr⟩ := hrel
              by_cases hql' : q < m.names.length
              · have hpq : m.names[q]? = some m.names[q] := List.getElem?_eq_getElem hql'
                have hmem : m.names[q] ∈ m.names := List.getElem_mem hql'
                have hread := HR4.out _ hmem
                have hmay := (hgood.dir.each _ hmem).1
                have hlq : (Fs.list m)[q]? = some m.names[q].1 := by unfold Fs.list; rw [List.getElem?_map, hpq]; rfl
                obtain ⟨r1, hoa, hr1, c1⟩ := (hnow.kp (kp_kept hkr (fun b hb => hb))) q _ hlq
                obtain ⟨r2, hna, hr2, c2⟩ := (hst8.kp (kp_kept hkr h8.lt)) q _ hlq
                obtain ⟨r3, hva, hr3, c3⟩ := (hall8.kp (kp_kept hkr h8.lt)) q (Fs.fileAt m m.names[q].2).bytes (by rw [List.getElem?_map, hpq]; rfl)
                generalize m.names[q] = x at hread hmay c1 c2 c3
                obtain ⟨xn, xi⟩ := x
                simp only at hread hmay c1 c2 c3
                subst hoa hna hva
                have hnl : (bs xn).size ≤ maxLen := by rw [bs_len]; have := (Fs.may_le hmay).2; unfold maxLen; omega
                have hrd := read_of (h8.kept hkr) (bs xn) hnl hread
                generalize (Fs.fileAt m xi).bytes = yb at hrd c3
                clear hread hmay hlq hpq hmem
                go_wp2_with fail
                refine hrd.mono ?_
                rintro e w9 ⟨rfl, rfl⟩
                go_wp2
                go_quiet (fail)
                go_wp2
                go_roundw
                case rel => exact ⟨q + 1, by omega, by go_num, kept_trans hkr (kept_drewN _ _)⟩
                case measure => simp [intOf]; omega
              · go_wp2
                go_ret
                exact ⟨rfl, kept_trans (kfin.below (fun i hi => hi)) hkr⟩
      · clear hlt
        go_wp2_with fail
        refine (list_of h rfl).mono ?_
        rintro e w3 ⟨na, nc, rfl, o3, g3⟩
        have kw3 : Kp (fun b => b < w.heap.size) w w3 := kw.trans (kp_kept g3 h.lt)
        obtain ⟨Kn, hKn1, hKn2, hst3, hd3⟩ : ∃ Kn : Nat → Prop, (∀ b, b < w.heap.size → Kn b) ∧ (∀ b, Kn b → b < w3.heap.size) ∧ StrsAt Kn w3 na (Fs.list m) ∧ IsDisk Kn w3 p G m :=
          ⟨fun b => b < w.heap.size ∨ (wr.heap.size ≤ b ∧ b < w3.heap.size), fun b hb => .inl hb, (h.wide g3).lt, strs_of o3 _ (fun b h1 h2 => .inr ⟨h1, h2⟩), h.wide g3⟩
        have hgood := h.good
        have hfew := h.good.dir.few
        obtain ⟨hn4, hr4⟩ := crash_tail hgood (by omega) (by omega) n keep
        have HR4 := Lib.hid hr4; have HN4 := Lib.hid hn4
        obtain ⟨i0, hi, hz0, hz1, hz2⟩ := info_parts infoStr
        have HI := Lib.hid hi; have HZ0 := Lib.hid hz0; have HZ1 := Lib.hid hz1; have HZ2 := Lib.hid hz2
        obtain ⟨i1, hi', hz0', hz1', hz2'⟩ := info_parts infoNum
        have JI := Lib.hid hi'; have JZ0 := Lib.hid hz0'; have JZ1 := Lib.hid hz1'; have JZ2 := Lib.hid hz2'
        clear hi hz0 hz1 hz2 hi' hz0' hz1' hz2' o3 h kw g3 hr4 hn4
        go_wp2
        clear wr
        go_loopw [10, 11, 55] (fun v kv t wr => ∃ (q : Nat) (K' : Nat → Prop), q ≤ m.names.length ∧ t = .int .i64 q ∧ IsDisk K' wr p G m ∧ (∀ b, Kn b → K' b) ∧ (∀ r, v.ownBlock = some r → K' r) ∧ (∀ r, kv.ownBlock = some r → K' r) ∧ wr.ownsRow w3.heap.size 9 1 v q (((m.names.take q).map (fun p => (Fs.fileAt m p.2).bytes)).map Go.Proofs.encStr) ∧ wr.ownsRow w3.heap.size 3 1 kv q ((List.replicate q (1073741824 : Int)).map (Value.int .i64)) ∧ Kp Kn w3 wr) (fun _ _ t _ => m.names.length - (intOf t).toNat)
        case atStart =>
          have e1 : (w3.alloc (.cells #[] 9)).heap.size = w3.heap.size + 1 := by simp
          have o1 := own_lit_num (w3.alloc (.cells #[] 9))
          rw [e1] at o1
          exact ⟨0, _, Nat.zero_le _, rfl, hd3.wide (((Kept.refl w3).alloc _).alloc _), fun b hb => .inl hb, fun r hr => .inr (by simp [Value.ownBlock] at hr; subst hr; simp; omega), fun r hr => .inr (by simp [Value.ownBlock] at hr; subst hr; simp), (own_lit_str w3).alloc _, own_low o1 (by omega), kp_kept (((Kept.refl w3).alloc _).alloc _) hd3.lt⟩
        case round =>
          obtain ⟨q, K', hq, rfl, hdq, hKK, hKv, hKw, hown, hownk, kq⟩ := hrel
          have hstq := hst3.kp kq
          by_cases hql : q < m.names.length
          · have hpq : m.names[q]? = some m.names[q] := List.getElem?_eq_getElem hql
            have hmem : m.names[q] ∈ m.names := List.getElem_mem hql
            have hread := read_name hgood (m' := m) rfl (fun _ => rfl) hmem
            have hmay := (hgood.dir.each _ hmem).1
            have htk : (m.names.take (q + 1)).map (fun p => (Fs.fileAt m p.2).bytes) = (m.names.take q).map (fun p => (Fs.fileAt m p.2).bytes) ++ [(Fs.fileAt m m.names[q].2).bytes] := by rw [List.take_add_one, hpq, List.map_append]; rfl
            obtain ⟨r, hna, hKr, hcr⟩ := hstq q m.names[q].1 (by unfold Fs.list; rw [List.getElem?_map, hpq]; rfl)
            have hblen := Fs.fileAt_len hgood m.names[q].2
            generalize m.names[q] = x at hread hmay htk hcr hblen
            obtain ⟨xn, xi⟩ := x
            simp only at hread hmay htk hcr hblen
            subst hna
            have hnl : (bs xn).size ≤ maxLen := by rw [bs_len]; have := (Fs.may_le hmay).2; unfold maxLen; omega
            have hrd := read_of hdq (bs xn) hnl hread
            have HTK := Lib.hid htk
            have hr3 : r < w3.heap.size := hKn2 r hKr
            clear htk hread hpq hmem hmay
            go_wp2_with fail
            refine hrd.mono ?_
            rintro e w4 ⟨rfl, rfl⟩
            generalize (Fs.fileAt m xi).bytes = yb at HTK hblen
            have tok1 : True := trivial
            go_wp2_with (first
              | (at_builtin; have _t := tok1; refine wpList_append_own_at _ rfl _ _ 39 rfl w3.heap.size 9 i0 (.string ByteArray.empty) 1 16 Try.underlying39 HI.out HZ0.out HZ1.out HZ2.out rfl (by decide) u10 q _ rfl (hown.alloc _) ⟨wr.heap.size, 0, none⟩ 1 1 [.string (bs yb)] rfl rfl (cell_one_new _ _ _) (by simp [Value.oneCell']) (by unfold maxLen; omega) (by omega) (by have := kq.size; simp; omega) ?_; intro v' w5 hown' hgrow hnil hloc; clear tok1; have hgw := (World.grownBy_alloc wr (.cells #[.string (bs yb)] 9) u10.ownBlock).trans hgrow; have hownk5 := own_same hownk (fun r' hr' => hgw.block r' (hownk.lt r' hr').2 (fun e => by { obtain ⟨ca, hca⟩ := own_blk hown e.symm; obtain ⟨cb, hcb⟩ := own_blk hownk hr'; rw [hca] at hcb; cases hcb })))
              | (at_builtin; refine wpList_append_own_at _ rfl _ _ 23 rfl w3.heap.size 3 i1 (.int .i64 0) 1 8 Try.underlying23 JI.out JZ0.out JZ1.out JZ2.out rfl (by decide) u11 q _ rfl (hownk5.alloc _) ⟨w5.heap.size, 0, none⟩ 1 1 [.int .i64 1073741824] rfl rfl (cell_one_new _ _ _) (by simp [Value.oneCell']) (by unfold maxLen; omega) (by omega) (by have := kq.size; have := hgw.size; simp; omega) ?_; intro kv' w6 hownk' hgrowk hnilk hlock; have hgwk := (World.grownBy_alloc w5 (.cells #[.int .i64 1073741824] 3) u11.ownBlock).trans hgrowk))
            have hown6 := own_same hown' (fun r' hr' => hgwk.block r' (hown'.lt r' hr').2 (fun e => by
              obtain ⟨ca, hca⟩ := own_blk hownk5 e.symm
              obtain ⟨cb, hcb⟩ := own_blk hown' hr'
              rw [hca] at hcb; cases hcb))
            have hd5 := hdq.grownK hgw hKv
            have hd6 := hd5.grownK hgwk (fun r' hr' => .inl (hKw r' hr'))
            have hsz5 := hgw.size
            have hsz6 := hgwk.size
            go_wp2
            go_roundw
            case rel =>
              refine ⟨q + 1, _, by omega, by go_num, hd6, fun b hb => .inl (.inl (hKK b hb)), fun r' hr' => ?_, fun r' hr' => ?_, ?_, ?_, ?_⟩
              · rcases hloc with e | e
                · exact .inl (.inl (hKv r' (by rw [← e]; exact hr')))
                · rw [e] at hr'
                  simp at hr'
                  have := (hown'.lt r' (by rw [e]; simp [hr'])).2
                  exact .inl (.inr ⟨by omega, this⟩)
              · rcases hlock with e | e
                · exact .inl (.inl (hKw r' (by rw [← e]; exact hr')))
                · rw [e] at hr'
                  simp at hr'
                  have := (hownk'.lt r' (by rw [e]; simp [hr'])).2
                  exact .inr ⟨by omega, this⟩
              · rw [HTK.out, List.map_append]
                exact hown6
              · rw [List.replicate_succ', List.map_append]
                exact hownk'
              · exact (kq.trans (kp_grown hgw (fun b hb => hdq.lt b (hKK b hb)) (fun r' hr' hk' => by have := (hown.lt r' hr').1; have := hKn2 r' hk'; omega))).trans (kp_grown hgwk (fun b hb => hd5.lt b (.inl (hKK b hb))) (fun r' hr' hk' => by have := (hownk5.lt r' hr').1; have := hKn2 r' hk'; omega))
            case measure => simp [intOf]; omega
          · have hqe : q = m.names.length := by omega
            subst hqe
            obtain ⟨va, vc, rfl⟩ := own_shape hown
            obtain ⟨kva, kvc, rfl⟩ := own_shape hownk
            rw [List.take_length] at hown
            have hall : StrsAt K' wr va (m.names.map (fun p => (Fs.fileAt m p.2).bytes)) := strs_own hown K' hKv
            have hkk : IntsAt K' wr (.slice kva m.names.length kvc) (List.replicate m.names.length 1073741824) := ints_own hownk K' hKw (by simp)
            have hc1 := crash_any hdq 1073741824 _ _ (by simp; omega) hkk
            have HCR := Lib.hid hc1
            have hkeep : IntsAt K' w3 (.slice KA keep.length kcap) keep := (hkv.kp kw3).mono (fun b hb => hKK b (hKn1 b hb))
            clear hc1 hkk hown hownk hKv hKw hst3 HI HZ0 HZ1 HZ2 JI JZ0 JZ1 JZ2
            go_wp2_with fail
            refine HCR.out.mono ?_
            rintro e w5 ⟨rfl, ⟨G5, h5⟩, k5⟩
            have hkeep5 : IntsAt K' w5 (.slice KA keep.length kcap) keep := ((((hkv.kp kw3).mono hKn1).kp kq).mono hKK).kp k5
            have hc2 := crash_any h5 n _ keep (by omega) hkeep5
            go_wp2_with fail
            refine hc2.mono ?_
            rintro e w7 ⟨rfl, ⟨G7, h7⟩, k7⟩
            have hli4 : Fs.list (Fs.crash (Fs.crash m 1073741824 (List.replicate m.names.length 1073741824)) n keep) = Fs.list m := by unfold Fs.list; rw [HN4.out]
            have hnl4 : (Fs.crash (Fs.crash m 1073741824 (List.replicate m.names.length 1073741824)) n keep).names.length = m.names.length := by rw [HN4.out]
            have HLI := Lib.hid hli4; have HNL := Lib.hid hnl4; clear hli4 hnl4
            go_wp2_with fail
            refine (list_of h7 HNL.out).mono ?_
            rintro e w8 ⟨oa, oc, rfl, o8, g8⟩
            have k8 := kp_kept g8 h7.lt
            have h8 := h7.kept g8
            rw [HLI.out] at o8
            have hnow := strs_of o8 (fun b => b < w8.heap.size) (fun b _ hb => hb)
            have kk8 := (k5.trans k7).trans k8
            have hst8 : StrsAt K' w8 na (Fs.list m) := (hstq.mono hKK).kp kk8
            have hall8 := hall.kp kk8
            have kfin : Kp (fun b => b < w.heap.size) w w8 := kw3.trans ((kq.mono hKn1).trans (kk8.mono (fun b hb => hKK b (hKn1 b hb))))
            clear o8
            go_wp2
            clear hdq hstq hall kq h5 h7 k5 k7 k8 kk8 g8 hc2 HCR hkeep5
            clear wr
            go_loopw [91] (fun t wr => ∃ q : Nat, q ≤ m.names.length ∧ t = .int .i64 q ∧ Kept w8 wr) (fun t _ => m.names.length - (intOf t).toNat)
            case atStart => exact ⟨0, Nat.zero_le _, rfl, Kept.refl _⟩
            case round =>
              obtain ⟨q, hq', rfl, hkr⟩ := hrel
              by_cases hql' : q < m.names.length
              · have hpq : m.names[q]? = some m.names[q] := List.getElem?_eq_getElem hql'
                have hmem : m.names[q] ∈ m.names := List.getElem_mem hql'
                have hread := HR4.out _ hmem
                have hmay := (hgood.dir.each _ hmem).1
                have hlq : (Fs.list m)[q]? = some m.names[q].1 := by unfold Fs.list; rw [List.getElem?_map, hpq]; rfl
                obtain ⟨r1, hoa, hr1, c1⟩ := (hnow.kp (kp_kept hkr (fun b hb => hb))) q _ hlq
                obtain ⟨r2, hna, hr2, c2⟩ := (hst8.kp (kp_kept hkr h8.lt)) q _ hlq
                obtain ⟨r3, hva, hr3, c3⟩ := (hall8.kp (kp_kept hkr h8.lt)) q (Fs.fileAt m m.names[q].2).bytes (by rw [List.getElem?_map, hpq]; rfl)
                generalize m.names[q] = x at hread hmay c1 c2 c3
                obtain ⟨xn, xi⟩ := x
                simp only at hread hmay c1 c2 c3
                subst hoa hna hva
                have hnl : (bs xn).size ≤ maxLen := by rw [bs_len]; have := (Fs.may_le hmay).2; unfold maxLen; omega
                have hrd := read_of (h8.kept hkr) (bs xn) hnl hread
                generalize (Fs.fileAt m xi).bytes = yb at hrd c3
                clear hread hmay hlq hpq hmem
                go_wp2_with fail
                refine hrd.mono ?_
                rintro e w9 ⟨rfl, rfl⟩
                go_wp2
                go_quiet (fail)
                go_wp2
                go_roundw
                case rel => exact ⟨q + 1, by omega, by go_num, kept_trans hkr (kept_drewN _ _)⟩
                case measure => simp [intOf]; omega
              · go_wp2
                go_ret
                exact ⟨rfl, kept_trans (kfin.below (fun i hi => hi)) hkr⟩
end Go.Proofs.Ytomgbanpldecfaa
