/-
  FsLoose of the statements of layer 3 returns true, whatever acts.
-/
import Derived.Test.YtomgbanpldecfaaFsLawDead
import Derived.Test.YtomgbanpldecfaaFsSureMath
namespace Go.Proofs.Ytomgbanpldecfaa
open Go.ChangeShapes Go.WideShapes Go.ChangeAt Go.RowKit Go.Maps
set_option linter.unusedVariables false
set_option maxHeartbeats 400000

/-- a list of strings that the disk's methods leave as it is -/
def StrsAt (K : Nat → Prop) (w : World) (A : Option Addr) (ss : List (List UInt8)) : Prop := ∀ (j : Nat) (x : List UInt8), ss[j]? = some x → ∃ r, A = some ⟨r, 0, none⟩ ∧ K r ∧ w.cell? ⟨r, j, none⟩ = some (.string (bs x))
theorem StrsAt.kp {K : Nat → Prop} {w w' : World} {A : Option Addr} {ss : List (List UInt8)} (h : StrsAt K w A ss) (hk : Kp K w w') : StrsAt K w' A ss := fun j x hx => by
  obtain ⟨r, e, hr, hc⟩ := h j x hx
  exact ⟨r, e, hr, by rw [← hc]; simp [World.cell?, hk.block r hr]⟩
theorem StrsAt.mono {K K' : Nat → Prop} {w : World} {A : Option Addr} {ss : List (List UInt8)} (h : StrsAt K w A ss) (hk : ∀ b, K b → K' b) : StrsAt K' w A ss := fun j x hx => by
  obtain ⟨r, e, hr, hc⟩ := h j x hx
  exact ⟨r, e, hk r hr, hc⟩
theorem strs_of {w : World} {base n c : Nat} {A : Option Addr} {ss : List (List UInt8)} (h : w.ownsRow base 9 1 (.slice A n c) n (ss.map Go.Proofs.encStr)) (K : Nat → Prop) (hK : ∀ b, base ≤ b → b < w.heap.size → K b) : StrsAt K w A ss := fun j x hx => by
  have hl : ss.length = n := by have := h.1; simpa using this
  have hj := (List.getElem?_eq_some_iff.1 hx).1
  rcases h.2 with ⟨_, e0⟩ | ⟨r, cap, cur, e, hbs, hb, hnc, _, _, htk⟩
  · omega
  · cases e
    refine ⟨r, rfl, hK r hbs (heap_lt hb), cell_of hb j ?_⟩
    have e1 : (cur.toList.take (n * 1))[j]? = some (.string (bs x)) := by rw [htk, List.getElem?_map, hx]; rfl
    rw [List.getElem?_take] at e1
    split at e1
    · simpa using e1
    · cases e1
theorem strs_own {w : World} {base n c : Nat} {A : Option Addr} {ss : List (List UInt8)} (h : w.ownsRow base 9 1 (.slice A n c) n (ss.map Go.Proofs.encStr)) (K : Nat → Prop) (hK : ∀ r, (Value.slice A n c).ownBlock = some r → K r) : StrsAt K w A ss := fun j x hx => by
  obtain ⟨r, e, hr, hc⟩ := strs_of h (fun _ => True) (fun _ _ _ => trivial) j x hx
  exact ⟨r, e, hK r (by rw [e]; rfl), hc⟩
/-- a list of strings of the law's own, that grows -/
theorem infoStr : (Try.prog.info? 9).map (fun i => (i.zero, i.size, i.bytes)) = some (some (.string ByteArray.empty), 1, 16) := by kernel_rfl
/-- what is known of all files behind k of them were synced -/
structure SyncedTo (m m' : Fs.Dsk) (k : Nat) : Prop where
  names : m'.names = m.names
  off : Fs.Off m'
  bytes : ∀ i, (Fs.fileAt m' i).bytes = (Fs.fileAt m i).bytes
  sure : ∀ j p, j < k → m.names[j]? = some p → (Fs.fileAt m' p.2).sure = (Fs.fileAt m' p.2).bytes.length
  pend : m'.pend = m.pend
theorem fileAt_mod' (m : Fs.Dsk) (i j : Nat) (g : Fs.File → Fs.File) : Fs.fileAt { m with files := m.files.modify i g } j = if i = j ∧ j < m.files.length then g (Fs.fileAt m j) else Fs.fileAt m j := by
  by_cases hj : j < m.files.length
  · rw [fileAt_modify m i j g hj]; simp [hj]
  · rw [if_neg (by omega)]
    unfold Fs.fileAt
    show ((m.files.modify i g)[j]?).getD Fs.noFile = _
    rw [List.getElem?_eq_none (by rw [Fs.modify_len]; omega), List.getElem?_eq_none (by omega)]
theorem synced_step {m m' : Fs.Dsk} {k : Nat} (h : SyncedTo m m' k) (hg : Fs.Good m) {p : Fs.Nm × Nat} (hp : m.names[k]? = some p) : ∃ m'', Fs.sync m' p.1 = (m'', 0) ∧ SyncedTo m m'' (k + 1) := by
  have hmem : (p.1, p.2) ∈ m.names := List.mem_of_getElem? hp
  have hget : Fs.dget m'.names p.1 = some p.2 := by rw [h.names]; exact Fs.dget_of_mem hg.dir.rise hmem
  refine ⟨_, Fs.sync_ok h.off hget, h.names, Fs.off_of h.off rfl rfl, fun i => ?_, fun j q hj hq => ?_, h.pend⟩
  · rw [fileAt_mod']
    split
    · exact h.bytes i
    · exact h.bytes i
  · rw [fileAt_mod']
    split
    · rfl
    · rename_i hne
      by_cases hjk : j < k
      · exact h.sure j q hjk hq
      · have : j = k := by omega
        subst this
        rw [hp] at hq
        cases hq
        have hnl : ¬ (p.2 < m'.files.length) := fun hlt => hne ⟨rfl, hlt⟩
        unfold Fs.fileAt
        rw [List.getElem?_eq_none (by omega)]
        rfl
theorem IsDisk.grownK {K : Nat → Prop} {w w' : World} {p : Nat} {G : Gh} {m : Fs.Dsk} {row : Option Nat} (h : IsDisk K w p G m) (hg : w.grownBy w' row) (hr : ∀ r, row = some r → K r) : IsDisk (fun b => K b ∨ (w.heap.size ≤ b ∧ b < w'.heap.size)) w' p G m :=
  h.stay (fun b hb => by rcases hb with hb | hb; exact Nat.lt_of_lt_of_le (h.lt b hb) hg.size; exact hb.2) (fun b hb => ⟨hg.block b (h.mine_lt hb) (fun e => h.mine_nk hb (hr b e.symm)), fun h' => by
    rcases h' with h' | h'
    · exact h.mine_nk hb h'
    · have := h.mine_lt hb; omega⟩)
theorem read_name {m m' : Fs.Dsk} (hg : Fs.Good m) (hn : m'.names = m.names) (hb : ∀ i, (Fs.fileAt m' i).bytes = (Fs.fileAt m i).bytes) {p : Fs.Nm × Nat} (hp : p ∈ m.names) : Fs.read m' p.1 = ((Fs.fileAt m p.2).bytes, 0) := by
  unfold Fs.read
  rw [hn, Fs.dget_of_mem hg.dir.rise (i := p.2) hp]
  simp only
  rw [hb]
theorem loose_tail {m m' : Fs.Dsk} (hg : Fs.Good m) (hg' : Fs.Good m') (h : SyncedTo m m' m.names.length) : ∃ m4, Fs.syncDir m' = (m4, 0) ∧ m4.pend.length = 0 ∧ Fs.loose m4 = 0 ∧ (Fs.crash m4 0 []).names = m.names ∧ ∀ p ∈ m.names, Fs.read (Fs.crash m4 0 []) p.1 = ((Fs.fileAt m p.2).bytes, 0) := by
  have e := Fs.syncDir_off h.off
  have g4 := hg'.syncDir
  rw [e] at g4
  have hsure : ∀ p ∈ m.names, (Fs.fileAt m' p.2).sure = (Fs.fileAt m' p.2).bytes.length := fun p hp => by
    obtain ⟨j, hj, ej⟩ := List.getElem_of_mem hp
    exact h.sure j p hj (by rw [List.getElem?_eq_getElem hj, ej])
  have hs4 : ∀ p ∈ m'.names, (Fs.fileAt { m' with sure := m'.names, pend := [] } p.2).sure = (Fs.fileAt { m' with sure := m'.names, pend := [] } p.2).bytes.length := fun p hp => hsure p (by rw [← h.names]; exact hp)
  obtain ⟨q1, q2⟩ := Fs.crash_quiet g4 rfl hs4 0 []
  refine ⟨_, e, rfl, Fs.sum_zero _ _ (fun p hp => by have := hs4 p hp; unfold Fs.looseF; omega), q1.trans h.names, fun p hp => ?_⟩
  have hp' : p ∈ m'.names := by rw [h.names]; exact hp
  unfold Fs.read
  rw [q1]
  simp only
  rw [Fs.dget_of_mem hg'.dir.rise (i := p.2) hp']
  simp only
  rw [q2 p hp']
  exact congrArg (fun x => (x, (0 : Int))) (h.bytes p.2)
theorem synced_zero {m : Fs.Dsk} (h : Fs.Off m) : SyncedTo m m 0 := ⟨rfl, h, fun _ => rfl, fun j p hj => by omega, rfl⟩
theorem own_lit_str (w : World) : (w.alloc (.cells #[] 9)).ownsRow w.heap.size 9 1 (.slice (some ⟨w.heap.size, 0, none⟩) 0 0) 0 [] :=
  ⟨by simp, .inr ⟨w.heap.size, 0, #[], rfl, Nat.le_refl _, heap_alloc_new w _, Nat.le_refl _, Nat.zero_le _, by simp, by simp⟩⟩
set_option maxRecDepth 100000 in
set_option maxHeartbeats 8000000 in
theorem FsLoose_walk (A : Option Addr) (cap : Nat) (l : List FsAct) {w : World} (ha : ActsIn w.heap.size w A l) (hll : l.length ≤ maxLen) :
    Calls Try.prog 7 #[.slice A l.length cap] w fun e w' => e = .returned (.bool true) ∧ Kept w w' := by
  unfold maxLen at hll
  have hnw : ∀ W, Kept w W → Calls Try.prog 9 #[] W fun e w' => ∃ p, e = .returned (.pointer (some ⟨p, 0, none⟩)) ∧ Dk (fun b => b < w.heap.size) w' p Fs.new ∧ Kp (fun b => b < w.heap.size) W w' := fun W hW => new_any (fun b hb => Nat.lt_of_lt_of_le hb (Below.size hW))
  go_enter Try.func7, Try.ntmps7
  go_wp2_with (first
    | (go_at_call 8; refine (awake_any _).mono ?_; rintro e w1 ⟨rfl, g1⟩)
    | (go_at_call 9; refine (hnw _ g1).mono ?_; rintro e w2 ⟨p, rfl, d2, k2⟩))
  clear hnw
  have kw2 : Kp (fun b => b < w.heap.size) w w2 := (kp_kept g1 (fun b hb => hb)).trans k2
  clear k2 g1
  go_loopw [4] (fun t wr => ∃ (k : Nat) (m : Fs.Dsk), k ≤ l.length ∧ k ≤ 100 ∧ t = .int .i64 k ∧ Dk (fun b => b < w.heap.size) wr p m ∧ Fs.tot m.files ≤ 1000 * k ∧ m.pend.length ≤ k ∧ Hid (Fs.Off m) ∧ Kp (fun b => b < w.heap.size) w wr) (fun t _ => l.length - (intOf t).toNat)
  case atStart => exact ⟨0, Fs.new, Nat.zero_le _, by omega, rfl, d2, by simp [Fs.new, Fs.tot], by simp [Fs.new], ⟨rfl, rfl⟩, kw2⟩
  case round =>
    obtain ⟨k, m, hk1, hk2, rfl, ⟨G, h⟩, htot, hpend, HO, kw⟩ := hrel
    clear d2 kw2
    by_cases hlt : k < l.length ∧ k < 100
    · obtain ⟨hlt, hlt2⟩ := hlt
      obtain ⟨x, hx⟩ : ∃ x, l[k]? = some x := ⟨_, List.getElem?_eq_getElem hlt⟩
      obtain ⟨b', o, hA, hact⟩ := (ha.kp kw) k x hx
      subst hA
      obtain ⟨hbB, c0, c1, c2, c3, ⟨ka, kc, c4, hks⟩, n1, a1, b1, kk1⟩ := hact
      have hlg := large_any x ka kc kk1 a1 b1
      cases hL : x.large
      · have hlg' : ∀ W, Calls Try.prog 10 #[.agg #[.int .i64 x.kind, .int .i64 x.n, .string x.a, .string x.b, .slice ka x.k.length kc]] W fun e w' => e = .returned (.bool false) ∧ Kept W w' := fun W => by have := hlg W; rw [hL] at this; exact this
        obtain ⟨hs1, hs2, hs3⟩ := large_no hL
        have HFT := Lib.hid (fplay_tot m x)
        have HFO := Lib.hid (fun h6 => fplay_off HO.out x h6)
        clear hlg hL hx
        have hbl : x.b.data.toList.length = x.b.size := by simp
        have HBL := Lib.hid hbl; clear hbl
        go_wp2_with fail
        refine (hlg' _).mono ?_
        rintro e w3 ⟨rfl, g3⟩
        have kw3 := kw.trans (kp_kept g3 h.lt)
        have hc3 : ∀ j, w3.cell? ⟨b', j, none⟩ = wr.cell? ⟨b', j, none⟩ := fun j => kept_cell g3 (p := ⟨b', j, none⟩) (Nat.lt_of_lt_of_le hbB kw.size)
        have y0 := (hc3 _).trans c0
        have y1 := (hc3 _).trans c1
        have y2 := (hc3 _).trans c2
        have y3 := (hc3 _).trans c3
        have y4 := (hc3 _).trans c4
        clear hc3 c0 c1 c2 c3 c4
        have hpl := play_any (h.kept g3) x ka kc (hks.kp (kp_kept g3 h.lt)) hs3 a1 b1 n1 (by rw [HBL.out]; omega) (by omega)
        by_cases h6 : x.kind = 6
        · have e6 : (x.kind == 6) = true := by simp [h6]
          clear h6
          go_wp2
          go_roundw
          case rel => exact ⟨k + 1, m, by omega, by omega, by go_num, ⟨G, h.kept g3⟩, by omega, by omega, HO, kw3⟩
          case measure => simp [intOf]; omega
        · have e6 : (x.kind == 6) = false := by simpa using h6
          go_wp2_with fail
          refine hpl.mono ?_
          rintro e w6 ⟨rfl, d6, k6⟩
          have htot6 : Fs.tot (fplay m x).1.files ≤ 1000 * (k + 1) := by have := HFT.out.1; rw [HBL.out] at this; omega
          have hpend6 : (fplay m x).1.pend.length ≤ k + 1 := by have := HFT.out.2; omega
          go_wp2
          go_roundw
          case rel => exact ⟨k + 1, _, by omega, by omega, by go_num, d6, htot6, hpend6, HFO.out h6, kw3.trans k6⟩
          case measure => simp [intOf]; omega
      · have hlg' : ∀ W, Calls Try.prog 10 #[.agg #[.int .i64 x.kind, .int .i64 x.n, .string x.a, .string x.b, .slice ka x.k.length kc]] W fun e w' => e = .returned (.bool true) ∧ Kept W w' := fun W => by have := hlg W; rw [hL] at this; exact this
        clear hlg hL hx
        go_wp2_with (go_at_call 10; refine (hlg' _).mono ?_; rintro e w3 ⟨rfl, g3⟩)
        go_ret
        exact ⟨rfl, kept_trans (kw.below (fun i hi => hi)) g3⟩
    · by_cases hlt' : k < l.length
      · have hk100 : ¬ (k < 100) := by omega
        clear hlt
        go_wp2_with fail
        refine (list_of h rfl).mono ?_
        rintro e w3 ⟨na, nc, rfl, o3, g3⟩
        have kw3 : Kp (fun b => b < w.heap.size) w w3 := kw.trans (kp_kept g3 h.lt)
        obtain ⟨Kn, hKn1, hKn2, hst3, hd3⟩ : ∃ Kn : Nat → Prop, (∀ b, b < w.heap.size → Kn b) ∧ (∀ b, Kn b → b < w3.heap.size) ∧ StrsAt Kn w3 na (Fs.list m) ∧ IsDisk Kn w3 p G m :=
          ⟨fun b => b < w.heap.size ∨ (wr.heap.size ≤ b ∧ b < w3.heap.size), fun b hb => .inl hb, (h.wide g3).lt, strs_of o3 _ (fun b h1 h2 => .inr ⟨h1, h2⟩), h.wide g3⟩
        have hgood := h.good
        have hfew := h.good.dir.few
        have hs0 := synced_zero HO.out
        obtain ⟨i0, hi, hz0, hz1, hz2⟩ := info_parts infoStr
        have HI := Lib.hid hi; have HZ0 := Lib.hid hz0; have HZ1 := Lib.hid hz1; have HZ2 := Lib.hid hz2
        clear hi hz0 hz1 hz2 o3 h kw g3
        go_wp2
        clear wr
        go_loopw [6, 51] (fun v t wr => ∃ (q : Nat) (m' : Fs.Dsk) (K' : Nat → Prop) (G' : Gh), q ≤ m.names.length ∧ t = .int .i64 q ∧ IsDisk K' wr p G' m' ∧ (∀ b, Kn b → K' b) ∧ (∀ r, v.ownBlock = some r → K' r) ∧ wr.ownsRow w3.heap.size 9 1 v q (((m.names.take q).map (fun p => (Fs.fileAt m p.2).bytes)).map Go.Proofs.encStr) ∧ Hid (SyncedTo m m' q) ∧ Kp Kn w3 wr) (fun _ t _ => m.names.length - (intOf t).toNat)
        case atStart => exact ⟨0, m, _, G, Nat.zero_le _, rfl, hd3.wide ((Kept.refl w3).alloc _), fun b hb => .inl hb, fun r hr => .inr (by simp [Value.ownBlock] at hr; subst hr; simp), own_lit_str w3, hs0, kp_kept ((Kept.refl w3).alloc _) hd3.lt⟩
        case round =>
          obtain ⟨q, m', K', G', hq, rfl, hdq, hKK, hKv, hown, HSY, kq⟩ := hrel
          have hstq := hst3.kp kq
          by_cases hql : q < m.names.length
          · have hpq : m.names[q]? = some m.names[q] := List.getElem?_eq_getElem hql
            have hmem : m.names[q] ∈ m.names := List.getElem_mem hql
            have hread := read_name hgood HSY.out.names HSY.out.bytes hmem
            obtain ⟨m2, hsy, HS2⟩ := synced_step HSY.out hgood hpq
            have hmay := (hgood.dir.each _ hmem).1
            have htk : (m.names.take (q + 1)).map (fun p => (Fs.fileAt m p.2).bytes) = (m.names.take q).map (fun p => (Fs.fileAt m p.2).bytes) ++ [(Fs.fileAt m m.names[q].2).bytes] := by rw [List.take_add_one, hpq, List.map_append]; rfl
            obtain ⟨r, hna, hKr, hcr⟩ := hstq q m.names[q].1 (by unfold Fs.list; rw [List.getElem?_map, hpq]; rfl)
            have hblen := Fs.fileAt_len hgood m.names[q].2
            generalize m.names[q] = x at hread hsy hmay htk hcr hblen
            obtain ⟨xn, xi⟩ := x
            simp only at hread hsy hmay htk hcr hblen
            subst hna
            have hnl : (bs xn).size ≤ maxLen := by rw [bs_len]; have := (Fs.may_le hmay).2; unfold maxLen; omega
            have hrd := read_of hdq (bs xn) hnl hread
            have HTK := Lib.hid htk; have HSYN := Lib.hid hsy
            have hr3 : r < w3.heap.size := hKn2 r hKr
            clear htk hsy hread hpq hmem hmay
            go_wp2_with fail
            refine hrd.mono ?_
            rintro e w4 ⟨rfl, rfl⟩
            generalize (Fs.fileAt m xi).bytes = yb at HTK hblen
            go_wp2_with (at_builtin; refine wpList_append_own_at _ rfl _ _ 39 rfl w3.heap.size 9 i0 (.string ByteArray.empty) 1 16 Try.underlying39 HI.out HZ0.out HZ1.out HZ2.out rfl (by decide) u6 q _ rfl (hown.alloc _) ⟨wr.heap.size, 0, none⟩ 1 1 [.string (bs yb)] rfl rfl (cell_one_new _ _ _) (by simp [Value.oneCell']) (by unfold maxLen; omega) (by omega) (by have := kq.size; simp; omega) ?_; intro v' w5 hown' hgrow hnil hloc; have hgw := (World.grownBy_alloc wr (.cells #[.string (bs yb)] 9) u6.ownBlock).trans hgrow; have hcr5 : w5.cell? ⟨r, q, none⟩ = some (.string (bs xn)) := by { rw [← hcr]; exact World.cell?_of_block (hgw.block r (Nat.lt_of_lt_of_le hr3 kq.size) (fun e => by have := (hown.lt r e.symm).1; omega)) })
            have hd5 := hdq.grownK hgw hKv
            have hKv' : ∀ r, v'.ownBlock = some r → (K' r ∨ (wr.heap.size ≤ r ∧ r < w5.heap.size)) := fun r' hr' => by
              rcases hloc with e | e
              · exact .inl (hKv r' (by rw [← e]; exact hr'))
              · rw [e] at hr'
                simp at hr'
                have := (hown'.lt r' (by rw [e]; simp [hr'])).2
                exact .inr ⟨by omega, this⟩
            have kn5 : Kp Kn wr w5 := kp_grown hgw (fun b hb => hdq.lt b (hKK b hb)) (fun r' hr' hk' => by have := (hown.lt r' hr').1; have := hKn2 r' hk'; omega)
            have hsc := dk_of (sync_any hd5 (bs xn) hnl) HSYN.out
            clear hnil
            refine hsc.mono ?_
            rintro e w6 ⟨rfl, ⟨G6, h6⟩, k6⟩
            go_wp2
            go_roundw
            case rel =>
              refine ⟨q + 1, m2, _, G6, by omega, by go_num, h6, fun b hb => .inl (hKK b hb), hKv', ?_, HS2, (kq.trans kn5).trans (k6.mono (fun b hb => .inl (hKK b hb)))⟩
              rw [HTK.out, List.map_append]
              exact own_same hown' (fun r' hr' => k6.block r' (hKv' r' hr'))
            case measure => simp [intOf]; omega
          · have hqe : q = m.names.length := by omega
            subst hqe
            obtain ⟨va, vc, rfl⟩ := own_shape hown
            rw [List.take_length] at hown
            have hall : StrsAt K' wr va (m.names.map (fun p => (Fs.fileAt m p.2).bytes)) := strs_own hown K' hKv
            obtain ⟨m4, e4, hp4, hl4, hn4, hr4⟩ := loose_tail hgood hdq.good HSY.out
            have HR4 := Lib.hid hr4
            have hsd := dk_of (syncDir_any hdq) e4
            have hn4' : (Fs.crash m4 0 []).names.length = m.names.length := by rw [hn4]
            have hli4 : Fs.list (Fs.crash m4 0 []) = Fs.list m := by unfold Fs.list; rw [hn4]
            have HN4 := Lib.hid hn4'; have HP4 := Lib.hid hp4; have HL4 := Lib.hid hl4; have HLI := Lib.hid hli4
            clear e4 hp4 hl4 hn4 hr4 hn4' hli4 hown hKv hst3 HSY HI HZ0 HZ1 HZ2
            go_wp2_with fail
            refine hsd.mono ?_
            rintro e w5 ⟨rfl, ⟨G5, h5⟩, k5⟩
            go_wp2_with fail
            refine (loose_of h5 HP4.out HL4.out).mono ?_
            rintro e w6 ⟨rfl, g6⟩
            have h6 := h5.kept g6
            have k6 := kp_kept g6 h5.lt
            go_wp2_with fail
            refine (crash_none h6 0 rfl).mono ?_
            rintro e w7 ⟨rfl, ⟨G7, h7⟩, k7⟩
            go_wp2_with fail
            refine (list_of h7 HN4.out).mono ?_
            rintro e w8 ⟨oa, oc, rfl, o8, g8⟩
            have k8 := kp_kept g8 h7.lt
            have h8 := h7.kept g8
            rw [HLI.out] at o8
            have hnow := strs_of o8 (fun b => b < w8.heap.size) (fun b _ hb => hb)
            have kk8 := ((k5.trans k6).trans k7).trans k8
            have hst8 : StrsAt K' w8 na (Fs.list m) := (hstq.mono hKK).kp kk8
            have hall8 := hall.kp kk8
            have kfin : Kp (fun b => b < w.heap.size) w w8 := kw3.trans ((kq.mono hKn1).trans (kk8.mono (fun b hb => hKK b (hKn1 b hb))))
            clear o8
            go_wp2
            clear hdq hstq hall kq hsd h5 h6 h7 k5 k6 k7 k8 kk8 g6 g8
            clear wr
            go_loopw [102] (fun t wr => ∃ q : Nat, q ≤ m.names.length ∧ t = .int .i64 q ∧ Kept w8 wr) (fun t _ => m.names.length - (intOf t).toNat)
            case atStart => exact ⟨0, Nat.zero_le _, rfl, Kept.refl _⟩
            case round =>
              obtain ⟨q, hq', rfl, hkr⟩ := hrel
              by_cases hql' : q < m.names.length
              · have hpq : m.names[q]? = some m.names[q] := List.getElem?_eq_getElem hql'
                have hmem : m.names[q] ∈ m.names := List.getElem_mem hql'
                have hread := HR4.out _ hmem
                have hmay := (hgood.dir.each _ hmem).1
                have hlq : (Fs.list m)[q]? = some m.names[q].1 := by unfold Fs.list; rw [List.getElem?_map, hpq]; rfl
                obtain ⟨r1, hoa, hr1, c1⟩ := (hnow.kp (kp_kept hkr (fun b hb => hb))) q _ hlq
                obtain ⟨r2, hna, hr2, c2⟩ := (hst8.kp (kp_kept hkr h8.lt)) q _ hlq
                obtain ⟨r3, hva, hr3, c3⟩ := (hall8.kp (kp_kept hkr h8.lt)) q (Fs.fileAt m m.names[q].2).bytes (by rw [List.getElem?_map, hpq]; rfl)
                generalize m.names[q] = x at hread hmay c1 c2 c3
                obtain ⟨xn, xi⟩ := x
                simp only at hread hmay c1 c2 c3
                subst hoa hna hva
                have hnl : (bs xn).size ≤ maxLen := by rw [bs_len]; have := (Fs.may_le hmay).2; unfold maxLen; omega
                have hrd := read_of (h8.kept hkr) (bs xn) hnl hread
                generalize (Fs.fileAt m xi).bytes = yb at hrd c3
                clear hread hmay hlq hpq hmem
                go_wp2_with fail
                refine hrd.mono ?_
                rintro e w9 ⟨rfl, rfl⟩
                go_wp2
                go_quiet (fail)
                go_wp2
                go_roundw
                case rel => exact ⟨q + 1, by omega, by go_num, kept_trans hkr (kept_drewN _ _)⟩
                case measure => simp [intOf]; omega
              · go_wp2
                go_ret
                exact ⟨rfl, kept_trans (kfin.below (fun i hi => hi)) hkr⟩
      · clear hlt
        go_wp2_with fail
        refine (list_of h rfl).mono ?_
        rintro e w3 ⟨na, nc, rfl, o3, g3⟩
        have kw3 : Kp (fun b => b < w.heap.size) w w3 := kw.trans (kp_kept g3 h.lt)
        obtain ⟨Kn, hKn1, hKn2, hst3, hd3⟩ : ∃ Kn : Nat → Prop, (∀ b, b < w.heap.size → Kn b) ∧ (∀ b, Kn b → b < w3.heap.size) ∧ StrsAt Kn w3 na (Fs.list m) ∧ IsDisk Kn w3 p G m :=
          ⟨fun b => b < w.heap.size ∨ (wr.heap.size ≤ b ∧ b < w3.heap.size), fun b hb => .inl hb, (h.wide g3).lt, strs_of o3 _ (fun b h1 h2 => .inr ⟨h1, h2⟩), h.wide g3⟩
        have hgood := h.good
        have hfew := h.good.dir.few
        have hs0 := synced_zero HO.out
        obtain ⟨i0, hi, hz0, hz1, hz2⟩ := info_parts infoStr
        have HI := Lib.hid hi; have HZ0 := Lib.hid hz0; have HZ1 := Lib.hid hz1; have HZ2 := Lib.hid hz2
        clear hi hz0 hz1 hz2 o3 h kw g3
        go_wp2
        clear wr
        go_loopw [6, 51] (fun v t wr => ∃ (q : Nat) (m' : Fs.Dsk) (K' : Nat → Prop) (G' : Gh), q ≤ m.names.length ∧ t = .int .i64 q ∧ IsDisk K' wr p G' m' ∧ (∀ b, Kn b → K' b) ∧ (∀ r, v.ownBlock = some r → K' r) ∧ wr.ownsRow w3.heap.size 9 1 v q (((m.names.take q).map (fun p => (Fs.fileAt m p.2).bytes)).map Go.Proofs.encStr) ∧ Hid (SyncedTo m m' q) ∧ Kp Kn w3 wr) (fun _ t _ => m.names.length - (intOf t).toNat)
        case atStart => exact ⟨0, m, _, G, Nat.zero_le _, rfl, hd3.wide ((Kept.refl w3).alloc _), fun b hb => .inl hb, fun r hr => .inr (by simp [Value.ownBlock] at hr; subst hr; simp), own_lit_str w3, hs0, kp_kept ((Kept.refl w3).alloc _) hd3.lt⟩
        case round =>
          obtain ⟨q, m', K', G', hq, rfl, hdq, hKK, hKv, hown, HSY, kq⟩ := hrel
          have hstq := hst3.kp kq
          by_cases hql : q < m.names.length
          · have hpq : m.names[q]? = some m.names[q] := List.getElem?_eq_getElem hql
            have hmem : m.names[q] ∈ m.names := List.getElem_mem hql
            have hread := read_name hgood HSY.out.names HSY.out.bytes hmem
            obtain ⟨m2, hsy, HS2⟩ := synced_step HSY.out hgood hpq
            have hmay := (hgood.dir.each _ hmem).1
            have htk : (m.names.take (q + 1)).map (fun p => (Fs.fileAt m p.2).bytes) = (m.names.take q).map (fun p => (Fs.fileAt m p.2).bytes) ++ [(Fs.fileAt m m.names[q].2).bytes] := by rw [List.take_add_one, hpq, List.map_append]; rfl
            obtain ⟨r, hna, hKr, hcr⟩ := hstq q m.names[q].1 (by unfold Fs.list; rw [List.getElem?_map, hpq]; rfl)
            have hblen := Fs.fileAt_len hgood m.names[q].2
            generalize m.names[q] = x at hread hsy hmay htk hcr hblen
            obtain ⟨xn, xi⟩ := x
            simp only at hread hsy hmay htk hcr hblen
            subst hna
            have hnl : (bs xn).size ≤ maxLen := by rw [bs_len]; have := (Fs.may_le hmay).2; unfold maxLen; omega
            have hrd := read_of hdq (bs xn) hnl hread
            have HTK := Lib.hid htk; have HSYN := Lib.hid hsy
            have hr3 : r < w3.heap.size := hKn2 r hKr
            clear htk hsy hread hpq hmem hmay
            go_wp2_with fail
            refine hrd.mono ?_
            rintro e w4 ⟨rfl, rfl⟩
            generalize (Fs.fileAt m xi).bytes = yb at HTK hblen
            go_wp2_with (at_builtin; refine wpList_append_own_at _ rfl _ _ 39 rfl w3.heap.size 9 i0 (.string ByteArray.empty) 1 16 Try.underlying39 HI.out HZ0.out HZ1.out HZ2.out rfl (by decide) u6 q _ rfl (hown.alloc _) ⟨wr.heap.size, 0, none⟩ 1 1 [.string (bs yb)] rfl rfl (cell_one_new _ _ _) (by simp [Value.oneCell']) (by unfold maxLen; omega) (by omega) (by have := kq.size; simp; omega) ?_; intro v' w5 hown' hgrow hnil hloc; have hgw := (World.grownBy_alloc wr (.cells #[.string (bs yb)] 9) u6.ownBlock).trans hgrow; have hcr5 : w5.cell? ⟨r, q, none⟩ = some (.string (bs xn)) := by { rw [← hcr]; exact World.cell?_of_block (hgw.block r (Nat.lt_of_lt_of_le hr3 kq.size) (fun e => by have := (hown.lt r e.symm).1; omega)) })
            have hd5 := hdq.grownK hgw hKv
            have hKv' : ∀ r, v'.ownBlock = some r → (K' r ∨ (wr.heap.size ≤ r ∧ r < w5.heap.size)) := fun r' hr' => by
              rcases hloc with e | e
              · exact .inl (hKv r' (by rw [← e]; exact hr'))
              · rw [e] at hr'
                simp at hr'
                have := (hown'.lt r' (by rw [e]; simp [hr'])).2
                exact .inr ⟨by omega, this⟩
            have kn5 : Kp Kn wr w5 := kp_grown hgw (fun b hb => hdq.lt b (hKK b hb)) (fun r' hr' hk' => by have := (hown.lt r' hr').1; have := hKn2 r' hk'; omega)
            have hsc := dk_of (sync_any hd5 (bs xn) hnl) HSYN.out
            clear hnil
            refine hsc.mono ?_
            rintro e w6 ⟨rfl, ⟨G6, h6⟩, k6⟩
            go_wp2
            go_roundw
            case rel =>
              refine ⟨q + 1, m2, _, G6, by omega, by go_num, h6, fun b hb => .inl (hKK b hb), hKv', ?_, HS2, (kq.trans kn5).trans (k6.mono (fun b hb => .inl (hKK b hb)))⟩
              rw [HTK.out, List.map_append]
              exact own_same hown' (fun r' hr' => k6.block r' (hKv' r' hr'))
            case measure => simp [intOf]; omega
          · have hqe : q = m.names.length := by omega
            subst hqe
            obtain ⟨va, vc, rfl⟩ := own_shape hown
            rw [List.take_length] at hown
            have hall : StrsAt K' wr va (m.names.map (fun p => (Fs.fileAt m p.2).bytes)) := strs_own hown K' hKv
            obtain ⟨m4, e4, hp4, hl4, hn4, hr4⟩ := loose_tail hgood hdq.good HSY.out
            have HR4 := Lib.hid hr4
            have hsd := dk_of (syncDir_any hdq) e4
            have hn4' : (Fs.crash m4 0 []).names.length = m.names.length := by rw [hn4]
            have hli4 : Fs.list (Fs.crash m4 0 []) = Fs.list m := by unfold Fs.list; rw [hn4]
            have HN4 := Lib.hid hn4'; have HP4 := Lib.hid hp4; have HL4 := Lib.hid hl4; have HLI := Lib.hid hli4
            clear e4 hp4 hl4 hn4 hr4 hn4' hli4 hown hKv hst3 HSY HI HZ0 HZ1 HZ2
            go_wp2_with fail
            refine hsd.mono ?_
            rintro e w5 ⟨rfl, ⟨G5, h5⟩, k5⟩
            go_wp2_with fail
            refine (loose_of h5 HP4.out HL4.out).mono ?_
            rintro e w6 ⟨rfl, g6⟩
            have h6 := h5.kept g6
            have k6 := kp_kept g6 h5.lt
            go_wp2_with fail
            refine (crash_none h6 0 rfl).mono ?_
            rintro e w7 ⟨rfl, ⟨G7, h7⟩, k7⟩
            go_wp2_with fail
            refine (list_of h7 HN4.out).mono ?_
            rintro e w8 ⟨oa, oc, rfl, o8, g8⟩
            have k8 := kp_kept g8 h7.lt
            have h8 := h7.kept g8
            rw [HLI.out] at o8
            have hnow := strs_of o8 (fun b => b < w8.heap.size) (fun b _ hb => hb)
            have kk8 := ((k5.trans k6).trans k7).trans k8
            have hst8 : StrsAt K' w8 na (Fs.list m) := (hstq.mono hKK).kp kk8
            have hall8 := hall.kp kk8
            have kfin : Kp (fun b => b < w.heap.size) w w8 := kw3.trans ((kq.mono hKn1).trans (kk8.mono (fun b hb => hKK b (hKn1 b hb))))
            clear o8
            go_wp2
            clear hdq hstq hall kq hsd h5 h6 h7 k5 k6 k7 k8 kk8 g6 g8
            clear wr
            go_loopw [102] (fun t wr => ∃ q : Nat, q ≤ m.names.length ∧ t = .int .i64 q ∧ Kept w8 wr) (fun t _ => m.names.length - (intOf t).toNat)
            case atStart => exact ⟨0, Nat.zero_le _, rfl, Kept.refl _⟩
            case round =>
              obtain ⟨q, hq', rfl, hkr⟩ := hrel
              by_cases hql' : q < m.names.length
              · have hpq : m.names[q]? = some m.names[q] := List.getElem?_eq_getElem hql'
                have hmem : m.names[q] ∈ m.names := List.getElem_mem hql'
                have hread := HR4.out _ hmem
                have hmay := (hgood.dir.each _ hmem).1
                have hlq : (Fs.list m)[q]? = some m.names[q].1 := by unfold Fs.list; rw [List.getElem?_map, hpq]; rfl
                obtain ⟨r1, hoa, hr1, c1⟩ := (hnow.kp (kp_kept hkr (fun b hb => hb))) q _ hlq
                obtain ⟨r2, hna, hr2, c2⟩ := (hst8.kp (kp_kept hkr h8.lt)) q _ hlq
                obtain ⟨r3, hva, hr3, c3⟩ := (hall8.kp (kp_kept hkr h8.lt)) q (Fs.fileAt m m.names[q].2).bytes (by rw [List.getElem?_map, hpq]; rfl)
                generalize m.names[q] = x at hread hmay c1 c2 c3
                obtain ⟨xn, xi⟩ := x
                simp only at hread hmay c1 c2 c3
                subst hoa hna hva
                have hnl : (bs xn).size ≤ maxLen := by rw [bs_len]; have := (Fs.may_le hmay).2; unfold maxLen; omega
                have hrd := read_of (h8.kept hkr) (bs xn) hnl hread
                generalize (Fs.fileAt m xi).bytes = yb at hrd c3
                clear hread hmay hlq hpq hmem
                go_wp2_with fail
                refine hrd.mono ?_
                rintro e w9 ⟨rfl, rfl⟩
                go_wp2
                go_quiet (fail)
                go_wp2
                go_roundw
                case rel => exact ⟨q + 1, by omega, by go_num, kept_trans hkr (kept_drewN _ _)⟩
                case measure => simp [intOf]; omega
              · go_wp2
                go_ret
                exact ⟨rfl, kept_trans (kfin.below (fun i hi => hi)) hkr⟩
end Go.Proofs.Ytomgbanpldecfaa
