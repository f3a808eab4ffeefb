/-
  The contracts of a log's functions: Create, Add, Replay, Remove, Number, Size, Broken.
-/
import Derived.Test.YtlkcdcpdccmodaaGreatDoorWalName
import Derived.Test.YtlkcdcpdccmodaaGreatDoorWalDisk
import Derived.Test.YtlkcdcpdccmodaaGreatDoorFsCrash
import Derived.Test.YtlkcdcpdccmodaaGreatDoorFsCreate
import Derived.Test.YtlkcdcpdccmodaaGreatDoorFrameAll
namespace Go.Proofs.YtlkcdcpdccmodaaGreatDoor
open Go.ChangeShapes Go.WideShapes Go.ChangeAt Go.RowKit
set_option linter.unusedVariables false
set_option maxRecDepth 100000
set_option maxHeartbeats 1000000

def logObj (p : Nat) (l : Wl.Lg) : Obj := .cells #[.pointer (some ⟨p, 0, none⟩), .int .u64 l.n, .int .i64 l.size, .bool l.broken] 82
def IsLog (w : World) (b p : Nat) (l : Wl.Lg) : Prop := w.heap[b]? = some (logObj p l)
theorem IsLog.cells {w : World} {b p : Nat} {l : Wl.Lg} (h : IsLog w b p l) : w.cell? ⟨b, 0, none⟩ = some (.pointer (some ⟨p, 0, none⟩)) ∧ w.cell? ⟨b, 1, none⟩ = some (.int .u64 l.n) ∧ w.cell? ⟨b, 2, none⟩ = some (.int .i64 l.size) ∧ w.cell? ⟨b, 3, none⟩ = some (.bool l.broken) :=
  ⟨cell_of h 0 rfl, cell_of h 1 rfl, cell_of h 2 rfl, cell_of h 3 rfl⟩
theorem IsLog.fro {w : World} {b p : Nat} {l : Wl.Lg} (h : IsLog w b p l) (i : Nat) : w.frozen? ⟨b, i, none⟩ = false := frozen_of h i
theorem IsLog.kept {w w' : World} {b p : Nat} {l : Wl.Lg} (h : IsLog w b p l) (k : Kept w w') : IsLog w' b p l := (Below.block k b (heap_lt h)).trans h
theorem IsLog.kp {w w' : World} {K : Nat → Prop} {b p : Nat} {l : Wl.Lg} (h : IsLog w b p l) (k : Kp K w w') (hb : K b) : IsLog w' b p l := (k.block b hb).trans h
theorem IsLog.at {w : World} {b p : Nat} {l l' : Wl.Lg} (h : IsLog w b p l) (e : l = l') : IsLog w b p l' := e ▸ h

/-- a list of texts in memory, in blocks of K -/
def TxK (K : Nat → Prop) (w : World) (A : Option Addr) (l : List (List UInt8)) : Prop := ∀ (j : Nat) (x : List UInt8), l[j]? = some x → ∃ b o, A = some ⟨b, o, none⟩ ∧ K b ∧ w.cell? ⟨b, o + j, none⟩ = some (.string (bs x))
theorem TxK.kp {K : Nat → Prop} {w w' : World} {A : Option Addr} {l : List (List UInt8)} (h : TxK K w A l) (k : Kp K w w') : TxK K w' A l := fun j x hx => by
  obtain ⟨b, o, e, hb, hc⟩ := h j x hx
  exact ⟨b, o, e, hb, by rw [← hc]; simp [World.cell?, k.block b hb]⟩
theorem TxK.mono {K K' : Nat → Prop} {w : World} {A : Option Addr} {l : List (List UInt8)} (h : TxK K w A l) (hk : ∀ b, K b → K' b) : TxK K' w A l := fun j x hx => by
  obtain ⟨b, o, e, hb, hc⟩ := h j x hx
  exact ⟨b, o, e, hk b hb, hc⟩
theorem TxK.kept {K : Nat → Prop} {w w' : World} {A : Option Addr} {l : List (List UInt8)} (h : TxK K w A l) (k : Kept w w') : TxK K w' A l := fun j x hx => by
  obtain ⟨b, o, e, hb, hc⟩ := h j x hx
  exact ⟨b, o, e, hb, by rw [kept_cell k (cell_lt hc)]; exact hc⟩
theorem TxK.take {K : Nat → Prop} {w : World} {A : Option Addr} {l : List (List UInt8)} (h : TxK K w A l) (n : Nat) : TxK K w A (l.take n) := fun j x hx => h j x (by
  rw [List.getElem?_take] at hx
  split at hx
  · exact hx
  · cases hx)
theorem TxK.txs {K : Nat → Prop} {w : World} {A : Option Addr} {l : List (List UInt8)} (h : TxK K w A l) : Txs w A l := fun j x hx => by
  obtain ⟨b, o, e, hb, hc⟩ := h j x hx
  exact ⟨b, o, e, cell_lt hc, hc⟩
theorem txk_own {w w' : World} {base n : Nat} {l : List (List UInt8)} {A : Option Addr} {c : Nat} (h : w'.ownsRow base 9 1 (.slice A n c) n (txc l)) (hb : w.heap.size ≤ base) : TxK (fun b => w.heap.size ≤ b ∧ b < w'.heap.size) w' A l := fun j x hx => by
  obtain ⟨A', c', e, en, ht⟩ := txs_own h
  cases e
  obtain ⟨b, o, e1, e2, e3⟩ := ht j x hx
  refine ⟨b, o, e1, ⟨?_, e2⟩, e3⟩
  rcases h.2 with ⟨e4, _⟩ | ⟨g, cap, cur, e4, hg, _⟩
  · rw [e1] at e4; cases e4
  · rw [e1] at e4; cases e4; omega
theorem own_cap {w : World} {base n c : Nat} {A : Option Addr} {e : TypeId} {xs : List Value} (h : w.ownsRow base e 1 (.slice A n c) n xs) : n ≤ c := by
  rcases h.2 with ⟨e1, e2⟩ | ⟨g, cap, cur, e1, _, _, hc, _⟩
  · cases e1; omega
  · cases e1; exact hc
theorem txk_row {K : Nat → Prop} {w : World} {base n : Nat} {l : List (List UInt8)} {A : Option Addr} {c : Nat} (h : w.ownsRow base 9 1 (.slice A n c) n (txc l)) (hK : ∀ r, (Value.slice A n c).ownBlock = some r → K r) : TxK K w A l := fun j x hx => by
  obtain ⟨A', c', e, en, ht⟩ := txs_own h
  cases e
  obtain ⟨b, o, e1, e2, e3⟩ := ht j x hx
  refine ⟨b, o, e1, hK b ?_, e3⟩
  rw [e1]; rfl
theorem maylie_any (p : Nat) (n : Nat) (w : World) :
    Calls Tryz.prog 47 #[.pointer (some ⟨p, 0, none⟩), .int .u64 n] w fun e w' => e = .returned (.bool (decide (n ≤ 1099511627776))) ∧ w = w' := by
  have e1 : decide ((n : Int) ≤ 1099511627776) = decide (n ≤ 1099511627776) := by rw [Bool.eq_iff_iff]; simp; omega
  go_enter Tryz.func47, Tryz.ntmps47
  go_wp2_with fail
  go_ret
  exact ⟨by rw [← e1]; rfl, rfl⟩
theorem maylie_yes (p : Nat) {n : Nat} (h : n ≤ 1099511627776) (w : World) :
    Calls Tryz.prog 47 #[.pointer (some ⟨p, 0, none⟩), .int .u64 n] w fun e w' => e = .returned (.bool true) ∧ w = w' := by
  have := maylie_any p n w; rwa [decide_eq_true h] at this
theorem maylie_far (p : Nat) {n : Nat} (h : 1099511627776 < n) (w : World) :
    Calls Tryz.prog 47 #[.pointer (some ⟨p, 0, none⟩), .int .u64 n] w fun e w' => e = .returned (.bool false) ∧ w = w' := by
  have := maylie_any p n w; rwa [decide_eq_false (by omega)] at this
theorem maylie_nil (n : Nat) (w : World) :
    Calls Tryz.prog 47 #[.pointer none, .int .u64 n] w fun e w' => e = .returned (.bool false) ∧ w = w' := by
  go_enter Tryz.func47, Tryz.ntmps47
  go_wp2_with fail
  go_ret
  exact ⟨rfl, rfl⟩
theorem nm_size {n : Nat} (h : n ≤ 1099511627776) : (bs (Wl.nm n)).size ≤ maxLen := by
  have := (Wl.nm_len h).2
  have e : (bs (Wl.nm n)).size = (Wl.nm n).length := by simp [bs, ByteArray.size]
  rw [e]; unfold maxLen; omega
/-- the disk's answer, with the answer known -/
theorem dk_at {K : Nat → Prop} {w : World} {p : Nat} {r : Fs.Dsk × Int} {m : Fs.Dsk} {c : Int} {f : FuncId} {args : Array Value} (h : Calls Tryz.prog f args w (DkRet K w p r)) (e : r = (m, c)) :
    Calls Tryz.prog f args w fun e w' => e = .returned (.int .i64 c) ∧ Dk K w' p m ∧ Kp K w w' := by
  subst e; exact h
/-- Create, where a log is made -/
theorem wcreate_ok {K : Nat → Prop} {w : World} {p n : Nat} {G : Gh} {m M : Fs.Dsk} (h : IsDisk K w p G m) (hv : Vars w) (hn : n ≤ 1099511627776) (hp : m.pend.length < 1099511627776) (hM : Wl.mkLog m n = (M, 0)) :
    Calls Tryz.prog 15 #[.pointer (some ⟨p, 0, none⟩), .int .u64 n] w fun e w' => ∃ b, e = .returned (.tuple #[.pointer (some ⟨b, 0, none⟩), .int .i64 0]) ∧ IsLog w' b p ⟨n, 0, false⟩ ∧ w.heap.size ≤ b ∧ Dk (fun k => K k ∨ k = b) w' p M ∧ Kp K w w' := by
  unfold Wl.mkLog at hM
  rw [if_pos hn] at hM
  have hc0 : (Fs.create m (Wl.nm n)).2 = 0 := by
    split at hM
    · assumption
    · rename_i hne; rw [hM] at hne; exact absurd rfl hne
  rw [if_pos hc0] at hM
  obtain ⟨m1, em1⟩ : ∃ m1, Fs.create m (Wl.nm n) = (m1, 0) := ⟨(Fs.create m (Wl.nm n)).1, by rw [← hc0]⟩
  rw [em1] at hM
  have HM := Lib.hid (maylie_yes p hn w)
  have HN := Lib.hid (wname_nm hn w hv)
  have HC := Lib.hid (fun w1 (k : Kept w w1) => dk_at (create_any (h.kept k) (bs (Wl.nm n)) (nm_size hn) hp) em1)
  have HL := Lib.hid h.lt
  clear hc0 em1
  go_enter Tryz.func15, Tryz.ntmps15
  go_wp2_with fail
  refine HM.out.mono ?_
  rintro e w1 ⟨rfl, rfl⟩
  go_wp2_with fail
  refine HN.out.mono ?_
  rintro e w1 ⟨rfl, k1⟩
  go_wp2_with fail
  refine (HC.out w1 k1).mono ?_
  rintro e w2 ⟨rfl, ⟨G2, h2⟩, k2⟩
  have HS := Lib.hid (dk_at (syncDir_any h2) hM)
  go_wp2_with fail
  refine HS.out.mono ?_
  rintro e w3 ⟨rfl, ⟨G3, h3⟩, k3⟩
  have kk : Kp K w w3 := (kp_kept k1 HL.out).trans (k2.trans k3)
  go_wp2_with fail
  go_ret2
  have ka : Kept w3 (w3.alloc (logObj p ⟨n, 0, false⟩)) := (Kept.refl w3).alloc _
  refine ⟨w3.heap.size, rfl, World.alloc_heap_new w3 _, kk.size, ⟨G3, (h3.wide ka).narrow fun b hb => ?_⟩, kk.trans (kp_kept ka h3.lt)⟩
  rcases hb with hb | hb
  · exact .inl hb
  · exact .inr ⟨by omega, by simp; omega⟩
/-- Create, where none is made -/
theorem wcreate_far {w : World} (p : Nat) {n : Nat} (hn : 1099511627776 < n) :
    Calls Tryz.prog 15 #[.pointer (some ⟨p, 0, none⟩), .int .u64 n] w fun e w' => e = .returned (.tuple #[.pointer none, .int .i64 1]) ∧ w = w' := by
  have HM := Lib.hid (maylie_far p hn w)
  go_enter Tryz.func15, Tryz.ntmps15
  go_wp2_with fail
  refine HM.out.mono ?_
  rintro e w1 ⟨rfl, rfl⟩
  go_wp2_with fail
  go_ret2
  exact ⟨rfl, rfl⟩
theorem wcreate_nil (n : Nat) (w : World) :
    Calls Tryz.prog 15 #[.pointer none, .int .u64 n] w fun e w' => e = .returned (.tuple #[.pointer none, .int .i64 1]) ∧ w = w' := by
  have HM := Lib.hid (maylie_nil n w)
  go_enter Tryz.func15, Tryz.ntmps15
  go_wp2_with fail
  refine HM.out.mono ?_
  rintro e w1 ⟨rfl, rfl⟩
  go_wp2_with fail
  go_ret2
  exact ⟨rfl, rfl⟩
/-- bytes laid behind the file's, and synced -/
theorem wlay_go {K : Nat → Prop} {w : World} {p b : Nat} {G : Gh} {m M : Fs.Dsk} {E : Int} {l : Wl.Lg} (h : IsDisk K w p G m) (hl : IsLog w b p l) (hb : K b) (hv : Vars w) (hn : l.n ≤ 1099511627776) (f : List UInt8) (hf : f.length ≤ maxLen) (ht : Fs.tot m.files + f.length ≤ 1099511627776) (eA : Fs.append m (Wl.nm l.n) f = (M, E)) :
    Calls Tryz.prog 43 #[.pointer (some ⟨b, 0, none⟩), .string (bs f)] w fun e w' => (E ≠ 0 → e = .returned (.int .i64 E) ∧ Dk K w' p M ∧ Kp K w w') ∧ (E = 0 → ∀ M' E', Fs.sync M (Wl.nm l.n) = (M', E') → e = .returned (.int .i64 E') ∧ Dk K w' p M' ∧ Kp K w w') := by
  obtain ⟨c0, c1, c2, c3⟩ := hl.cells
  have HN := Lib.hid (wname_nm hn w hv)
  have fs : (bs f).size ≤ maxLen := by
    have e : (bs f).size = f.length := by simp [bs, ByteArray.size]
    rw [e]; exact hf
  have HA := Lib.hid (fun w1 (k : Kept w w1) => dk_at (append_any (h.kept k) (bs (Wl.nm l.n)) (bs f) (nm_size hn) fs (by simpa [bs] using ht)) eA)
  have HL := Lib.hid h.lt
  clear h eA
  obtain ⟨⟨S, T⟩, eS⟩ : ∃ r, Fs.sync M (Wl.nm l.n) = r := ⟨_, rfl⟩
  have ES := Lib.hid eS; clear eS
  go_enter Tryz.func43, Tryz.ntmps43
  go_wp2_with fail
  refine HN.out.mono ?_
  rintro e w1 ⟨rfl, k1⟩
  obtain ⟨d0, d1, d2, d3⟩ := (hl.kept k1).cells
  go_wp2_with fail
  refine (HA.out w1 k1).mono ?_
  rintro e w2 ⟨rfl, ⟨G2, h2⟩, k2⟩
  have kk : Kp K w w2 := (kp_kept k1 HL.out).trans k2
  have hl2 := ((hl.kept k1).kp k2 hb).cells
  obtain ⟨e0, e1, e2, e3⟩ := hl2
  have HS := Lib.hid (dk_at (sync_any h2 (bs (Wl.nm l.n)) (nm_size hn)) ES.out)
  by_cases hE : E = 0
  · subst hE
    go_wp2_with fail
    refine HS.out.mono ?_
    rintro e w3 ⟨rfl, h3, k3⟩
    go_wp2_with fail
    go_ret
    intro M' E' e'
    rw [ES.out] at e'
    cases e'
    exact ⟨rfl, h3, kk.trans k3⟩
  · have hEb : (E == 0) = false := by simpa using hE
    go_wp2_with fail
    go_ret
    exact ⟨fun _ => ⟨rfl, ⟨G2, h2⟩, kk⟩, fun h => absurd h hE⟩
theorem wlay_any {K : Nat → Prop} {w : World} {p b : Nat} {G : Gh} {m M : Fs.Dsk} {E : Int} {l : Wl.Lg} (h : IsDisk K w p G m) (hl : IsLog w b p l) (hb : K b) (hv : Vars w) (hn : l.n ≤ 1099511627776) (f : List UInt8) (hf : f.length ≤ maxLen) (ht : Fs.tot m.files + f.length ≤ 1099511627776) (eL : Wl.lay m l.n f = (M, E)) :
    Calls Tryz.prog 43 #[.pointer (some ⟨b, 0, none⟩), .string (bs f)] w fun e w' => e = .returned (.int .i64 E) ∧ Dk K w' p M ∧ Kp K w w' := by
  obtain ⟨⟨M1, E1⟩, eA⟩ : ∃ r, Fs.append m (Wl.nm l.n) f = r := ⟨_, rfl⟩
  refine (wlay_go h hl hb hv hn f hf ht eA).mono fun e w' ⟨h1, h2⟩ => ?_
  unfold Wl.lay at eL
  rw [eA] at eL
  by_cases hE : E1 = 0
  · rw [if_pos hE] at eL; exact h2 hE M E eL
  · rw [if_neg hE] at eL; cases eL; exact h1 hE
/-- the blocks that a log's Add leaves -/
def Kb (K : Nat → Prop) (b : Nat) : Nat → Prop := fun k => K k ∧ k ≠ b
theorem log_set {K : Nat → Prop} {w : World} {p b i : Nat} {G : Gh} {m : Fs.Dsk} {l l' : Wl.Lg} {v : Value} (h : IsDisk K w p G m) (hl : IsLog w b p l) (hb : K b) (hc : (#[Value.pointer (some ⟨p, 0, none⟩), .int .u64 l.n, .int .i64 l.size, .bool l.broken].setIfInBounds i v) = #[Value.pointer (some ⟨p, 0, none⟩), .int .u64 l'.n, .int .i64 l'.size, .bool l'.broken]) :
    IsDisk K (w.setCell ⟨b, i, none⟩ v) p G m ∧ IsLog (w.setCell ⟨b, i, none⟩ v) b p l' ∧ Kp (Kb K b) w (w.setCell ⟨b, i, none⟩ v) := by
  have hg := grown_setCell w b i v
  refine ⟨h.stay (fun k hk => by have := h.lt k hk; have := hg.size; omega) (fun k hk => ⟨hg.block k (h.mine_lt hk) (fun e => h.mine_nk hk (by cases e; exact hb)), h.mine_nk hk⟩), ?_, kp_grown hg (fun k hk => h.lt k hk.1) (fun r e hk => by cases e; exact hk.2 rfl)⟩
  unfold IsLog
  rw [heap_set hl, hc]; rfl
/-- Add, at a broken log -/
theorem wadd_broken {w : World} {p b : Nat} {l : Wl.Lg} (hl : IsLog w b p l) (hbr : l.broken = true) (t : ByteArray) :
    Calls Tryz.prog 13 #[.pointer (some ⟨b, 0, none⟩), .string t] w fun e w' => e = .returned (.int .i64 30) ∧ w = w' := by
  obtain ⟨c0, c1, c2, c3⟩ := hl.cells
  rw [hbr] at c3
  go_enter Tryz.func13, Tryz.ntmps13
  go_wp2_with fail
  go_ret
  exact ⟨rfl, rfl⟩
/-- Add, of a text that is too long -/
theorem wadd_long {w : World} {p b : Nat} {l : Wl.Lg} (hl : IsLog w b p l) (hbr : l.broken = false) (t : ByteArray) (ht : t.size ≤ maxLen) (hs : 8000 < t.data.toList.length) :
    Calls Tryz.prog 13 #[.pointer (some ⟨b, 0, none⟩), .string t] w fun e w' => e = .returned (.int .i64 5) ∧ Kept w w' := by
  obtain ⟨c0, c1, c2, c3⟩ := hl.cells
  rw [hbr] at c3
  have hm := make_any t ht w
  unfold Fr.makeS Fr.makeE at hm
  rw [if_neg (by omega), if_neg (by omega)] at hm
  have HM := Lib.hid hm; clear hm
  go_enter Tryz.func13, Tryz.ntmps13
  go_wp2_with fail
  refine HM.out.mono ?_
  rintro e w1 ⟨rfl, k1⟩
  go_wp2_with fail
  go_ret
  exact ⟨rfl, k1⟩
/-- Add, else -/
theorem wadd_lay {K : Nat → Prop} {w : World} {p b : Nat} {G : Gh} {m M : Fs.Dsk} {E : Int} {l : Wl.Lg} (h : IsDisk K w p G m) (hl : IsLog w b p l) (hb : K b) (hv : Vars w) (hvk : ∀ b, IsVar b → K b) (hn : l.n ≤ 1099511627776) (hbr : l.broken = false) (hsz : l.size ≤ 1099511627776) (t : ByteArray) (hs : t.data.toList.length ≤ 8000) (ht : Fs.tot m.files + 8003 ≤ 1099511627776) (eL : Wl.lay m l.n (Fr.mk t.data.toList) = (M, E)) :
    Calls Tryz.prog 13 #[.pointer (some ⟨b, 0, none⟩), .string t] w fun e w' => e = .returned (.int .i64 E) ∧ Dk K w' p M ∧ IsLog w' b p (Wl.after l (Fr.mk t.data.toList).length E) ∧ Kp (Kb K b) w w' := by
  obtain ⟨c0, c1, c2, c3⟩ := hl.cells
  rw [hbr] at c3
  have hlen := (Fr.mk_lens _ hs).2
  have hm := make_any t (by have : t.data.toList.length = t.size := by simp
                            unfold maxLen; omega) w
  unfold Fr.makeS Fr.makeE at hm
  rw [if_pos hs, if_pos hs] at hm
  have HM := Lib.hid hm; clear hm
  have HLAY := Lib.hid (fun w1 (k : Kept w w1) => wlay_any (h.kept k) (hl.kept k) hb (hv.kept k) hn (Fr.mk t.data.toList) (by unfold maxLen; omega) (by omega) eL)
  have HL := Lib.hid h.lt
  have hbsz : (bs (Fr.mk t.data.toList)).size = (Fr.mk t.data.toList).length := by simp [bs, ByteArray.size]
  clear eL
  generalize Fr.mk t.data.toList = f at *
  generalize bs f = S at *
  have HB := Lib.hid hbsz; clear hbsz
  go_enter Tryz.func13, Tryz.ntmps13
  go_wp2_with fail
  refine HM.out.mono ?_
  rintro e w1 ⟨rfl, k1⟩
  go_wp2_with fail
  refine (HLAY.out w1 k1).mono ?_
  rintro e w2 ⟨rfl, ⟨G2, h2⟩, k2⟩
  have kk : Kp K w w2 := (kp_kept k1 HL.out).trans k2
  have kb : Kp (Kb K b) w w2 := kk.mono (fun k hk => hk.1)
  have hl2 := (hl.kept k1).kp k2 hb
  obtain ⟨e0, e1, e2, e3⟩ := hl2.cells
  have f2 := hl2.fro 2
  have f3 := hl2.fro 3
  rw [hbr] at e3
  by_cases hE : E = 0
  · subst hE
    have hsum : IntKind.i64.wrap ((l.size : Int) + (S.size : Int)) = ((l.size + f.length : Nat) : Int) := by rw [HB.out, IntKind.wrap_i64]; omega
    go_wp2_with fail
    go_ret
    have hset := log_set (l' := Wl.after l f.length 0) (v := .int .i64 ((l.size : Int) + (f.length : Int))) (i := 2) h2 hl2 hb (by unfold Wl.after; rw [if_pos rfl]; simp)
    exact ⟨rfl, ⟨G2, hset.1⟩, hset.2.1, kb.trans hset.2.2⟩
  · have hEb : (E == 0) = false := by simpa using hE
    by_cases hE2 : E = 12
    · subst hE2
      go_wp2_with fail
      go_ret
      exact ⟨rfl, ⟨G2, h2⟩, hl2, kb⟩
    · have hEc : (E == 12) = false := by simpa using hE2
      go_wp2_with fail
      go_ret
      have hset := log_set (l' := Wl.after l f.length E) (v := .bool true) (i := 3) h2 hl2 hb (by unfold Wl.after; rw [if_neg hE, if_neg hE2]; rfl)
      exact ⟨rfl, ⟨G2, hset.1⟩, hset.2.1, kb.trans hset.2.2⟩
/-- what a log tells of itself -/
theorem wnum_any {w : World} {p b : Nat} {l : Wl.Lg} (hl : IsLog w b p l) : Calls Tryz.prog 25 #[.pointer (some ⟨b, 0, none⟩)] w fun e w' => e = .returned (.int .u64 l.n) ∧ w = w' := by
  obtain ⟨c0, c1, c2, c3⟩ := hl.cells
  go_enter Tryz.func25, Tryz.ntmps25
  go_wp2_with fail
  go_ret
  exact ⟨rfl, rfl⟩
theorem wsize_any {w : World} {p b : Nat} {l : Wl.Lg} (hl : IsLog w b p l) : Calls Tryz.prog 26 #[.pointer (some ⟨b, 0, none⟩)] w fun e w' => e = .returned (.int .i64 l.size) ∧ w = w' := by
  obtain ⟨c0, c1, c2, c3⟩ := hl.cells
  go_enter Tryz.func26, Tryz.ntmps26
  go_wp2_with fail
  go_ret
  exact ⟨rfl, rfl⟩
theorem wbroken_any {w : World} {p b : Nat} {l : Wl.Lg} (hl : IsLog w b p l) : Calls Tryz.prog 27 #[.pointer (some ⟨b, 0, none⟩)] w fun e w' => e = .returned (.bool l.broken) ∧ w = w' := by
  obtain ⟨c0, c1, c2, c3⟩ := hl.cells
  go_enter Tryz.func27, Tryz.ntmps27
  go_wp2_with fail
  go_ret
  exact ⟨rfl, rfl⟩
/-- Replay -/
theorem wreplay_ok {K : Nat → Prop} {w : World} {p n : Nat} {G : Gh} {m : Fs.Dsk} (h : IsDisk K w p G m) (hv : Vars w) (hn : n ≤ 1099511627776) {B : List UInt8} (hR : Fs.read m (Wl.nm n) = (B, 0)) (hB : B.length ≤ 16777216) {l : List (List UInt8)} {r : List UInt8} (hr : Fr.Reads B l r) :
    Calls Tryz.prog 28 #[.pointer (some ⟨p, 0, none⟩), .int .u64 n] w fun e w' => ∃ A c, e = .returned (.tuple #[.slice A l.length c, .int .i64 0]) ∧ TxK (fun b => w.heap.size ≤ b ∧ b < w'.heap.size) w' A l ∧ l.length ≤ c ∧ Kept w w' := by
  have HM := Lib.hid (maylie_yes p hn w)
  have HN := Lib.hid (wname_nm hn w hv)
  have HR := Lib.hid (fun w1 (k : Kept w w1) => (show Calls Tryz.prog 61 #[.pointer (some ⟨p, 0, none⟩), .string (bs (Wl.nm n))] w1 fun e w' => e = .returned (.tuple #[.string (bs B), .int .i64 0]) ∧ w1 = w' by
    have := read_any (h.kept k) (bs (Wl.nm n)) (nm_size hn); rw [bs_data, hR] at this; exact this))
  have HA := Lib.hid (fun w1 => all_row (bs B) (by simpa [bs, ByteArray.size] using hB) l r hr w1)
  clear h hR
  generalize bs B = S at *
  generalize bs (Wl.nm n) = N at *
  go_enter Tryz.func28, Tryz.ntmps28
  go_wp2_with fail
  refine HM.out.mono ?_
  rintro e w1 ⟨rfl, rfl⟩
  go_wp2_with fail
  refine HN.out.mono ?_
  rintro e w1 ⟨rfl, k1⟩
  go_wp2_with fail
  refine (HR.out w1 k1).mono ?_
  rintro e w2 ⟨rfl, rfl⟩
  go_wp2_with fail
  refine (HA.out w1).mono ?_
  rintro e w3 ⟨A, c, rfl, ht, k3⟩
  go_wp2_with fail
  go_ret2
  exact ⟨A, c, rfl, txk_own ht (Below.size k1), own_cap ht, kept_trans k1 k3⟩
theorem wreplay_none {K : Nat → Prop} {w : World} {p n : Nat} {G : Gh} {m : Fs.Dsk} (h : IsDisk K w p G m) (hv : Vars w) (hn : n ≤ 1099511627776) (hR : Fs.read m (Wl.nm n) = ([], 10)) :
    Calls Tryz.prog 28 #[.pointer (some ⟨p, 0, none⟩), .int .u64 n] w fun e w' => e = .returned (.tuple #[.slice none 0 0, .int .i64 10]) ∧ Kept w w' := by
  have HM := Lib.hid (maylie_yes p hn w)
  have HN := Lib.hid (wname_nm hn w hv)
  have HR := Lib.hid (fun w1 (k : Kept w w1) => (show Calls Tryz.prog 61 #[.pointer (some ⟨p, 0, none⟩), .string (bs (Wl.nm n))] w1 fun e w' => e = .returned (.tuple #[.string (bs []), .int .i64 10]) ∧ w1 = w' by
    have := read_any (h.kept k) (bs (Wl.nm n)) (nm_size hn); rw [bs_data, hR] at this; exact this))
  clear h hR
  generalize bs (Wl.nm n) = N at *
  go_enter Tryz.func28, Tryz.ntmps28
  go_wp2_with fail
  refine HM.out.mono ?_
  rintro e w1 ⟨rfl, rfl⟩
  go_wp2_with fail
  refine HN.out.mono ?_
  rintro e w1 ⟨rfl, k1⟩
  go_wp2_with fail
  refine (HR.out w1 k1).mono ?_
  rintro e w2 ⟨rfl, rfl⟩
  go_wp2_with fail
  go_ret2
  exact ⟨rfl, k1⟩
theorem wreplay_far {w : World} (p : Nat) {n : Nat} (hn : 1099511627776 < n) :
    Calls Tryz.prog 28 #[.pointer (some ⟨p, 0, none⟩), .int .u64 n] w fun e w' => e = .returned (.tuple #[.slice none 0 0, .int .i64 1]) ∧ w = w' := by
  have HM := Lib.hid (maylie_far p hn w)
  go_enter Tryz.func28, Tryz.ntmps28
  go_wp2_with fail
  refine HM.out.mono ?_
  rintro e w1 ⟨rfl, rfl⟩
  go_wp2_with fail
  go_ret2
  exact ⟨rfl, rfl⟩
/-- Remove -/
theorem wremove_any {K : Nat → Prop} {w : World} {p n : Nat} {G : Gh} {m M : Fs.Dsk} {E : Int} (h : IsDisk K w p G m) (hv : Vars w) (hn : n ≤ 1099511627776) (hp : m.pend.length < 1099511627776) (hM : Fs.remove m (Wl.nm n) = (M, E)) :
    Calls Tryz.prog 17 #[.pointer (some ⟨p, 0, none⟩), .int .u64 n] w fun e w' => e = .returned (.int .i64 E) ∧ Dk K w' p M ∧ Kp K w w' := by
  have HM := Lib.hid (maylie_yes p hn w)
  have HN := Lib.hid (wname_nm hn w hv)
  have HR := Lib.hid (fun w1 (k : Kept w w1) => dk_at (remove_any (h.kept k) (bs (Wl.nm n)) (nm_size hn) hp) hM)
  have HL := Lib.hid h.lt
  clear h hM
  generalize bs (Wl.nm n) = N at *
  go_enter Tryz.func17, Tryz.ntmps17
  go_wp2_with fail
  refine HM.out.mono ?_
  rintro e w1 ⟨rfl, rfl⟩
  go_wp2_with fail
  refine HN.out.mono ?_
  rintro e w1 ⟨rfl, k1⟩
  go_wp2_with fail
  refine (HR.out w1 k1).mono ?_
  rintro e w2 ⟨rfl, h2, k2⟩
  go_wp2_with fail
  go_ret
  exact ⟨rfl, h2, (kp_kept k1 HL.out).trans k2⟩
theorem wremove_far {w : World} (p : Nat) {n : Nat} (hn : 1099511627776 < n) :
    Calls Tryz.prog 17 #[.pointer (some ⟨p, 0, none⟩), .int .u64 n] w fun e w' => e = .returned (.int .i64 1) ∧ w = w' := by
  have HM := Lib.hid (maylie_far p hn w)
  go_enter Tryz.func17, Tryz.ntmps17
  go_wp2_with fail
  refine HM.out.mono ?_
  rintro e w1 ⟨rfl, rfl⟩
  go_wp2_with fail
  go_ret
  exact ⟨rfl, rfl⟩
end Go.Proofs.YtlkcdcpdccmodaaGreatDoor
