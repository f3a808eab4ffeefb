/-
  How a table's bytes are read, in plain mathematics: cut by the foot, the index's places, the blocks; of bytes that are none something is read all the same.
-/
import Derived.Test.YtecjnebfhbdnaaaTableMath
namespace Go.Proofs.Ytecjnebfhbdnaaa
set_option linter.unusedVariables false
set_option maxRecDepth 100000
namespace Tb
open Mm
structure Pl where
  key : List UInt8
  seq : Nat
  beg : Nat
  size : Nat
structure Tv where
  blocks : List UInt8
  index : List Pl
  filter : List UInt8
  n : Int
def split (s : List UInt8) (n : Nat) : List UInt8 × List UInt8 := if s.length < n then ([], []) else (s.take n, s.drop n)
def splitE (s : List UInt8) (n : Nat) : List UInt8 × List UInt8 := if s.length < n then ([], []) else (s.take (s.length - n), s.drop (s.length - n))
def tkL (s : List UInt8) : Nat × List UInt8 := (Nm.unl (split s 8).1, (split s 8).2)
def tkT (s : List UInt8) : List UInt8 × List UInt8 := split (Nm.takeR s) (Nm.takeN s)
def rdP (s : List UInt8) : Pl × List UInt8 :=
  (⟨(tkT s).1, Nm.takeN (tkT s).2, Nm.takeN (Nm.takeR (tkT s).2), Nm.takeN (Nm.takeR (Nm.takeR (tkT s).2))⟩, Nm.takeR (Nm.takeR (Nm.takeR (tkT s).2)))
def rdPs : Nat → List UInt8 → List Pl
  | 0, _ => []
  | k + 1, s => (rdP s).1 :: rdPs k (rdP s).2
def rdIx (s : List UInt8) : List Pl := rdPs (min (Nm.takeN s) 63) (Nm.takeR s)
def pA (s : List UInt8) := splitE s 32
def pI (s : List UInt8) := tkL (pA s).2
def pF (s : List UInt8) := tkL (pI s).2
def pE (s : List UInt8) := tkL (pF s).2
def pB (s : List UInt8) := splitE (pA s).1 (pF s).1
def pC (s : List UInt8) := splitE (pB s).1 (pI s).1
def parts (s : List UInt8) : Tv := ⟨(pC s).1, rdIx (pC s).2, (pB s).2, IntKind.i64.wrap ((pE s).1 : Int)⟩
def Tv.bys (t : Tv) (p : Pl) : List UInt8 := (split (split t.blocks p.beg).2 p.size).1
def Tv.rd (t : Tv) (p : Pl) : List Ent := (Bk.dec (t.bys p)).getD []
def Tv.upto (t : Tv) (k : Nat) : List Ent := ((t.index.take k).map t.rd).flatten
def Tv.all (t : Tv) : List Ent := (t.index.map t.rd).flatten
def dec (s : List UInt8) : Option (List Ent) := if isT (parts s).all = true ∧ enc (parts s).all = s then some (parts s).all else none
def pl (l : List Ent) (i : Nat) : Pl := match (bl l i).getLast? with
  | none => ⟨[], 0, 0, 0⟩
  | some x => ⟨x.key, x.seq, (out l i).length, (Bk.enc (bl l i)).length⟩
def tv (l : List Ent) : Tv := ⟨out l (nb l), (List.range (nb l)).map (pl l), fl l, (l.length : Int)⟩
theorem split_le (s : List UInt8) (n : Nat) : (split s n).1.length ≤ s.length ∧ (split s n).2.length ≤ s.length := by
  unfold split; split <;> simp <;> omega
theorem splitE_le (s : List UInt8) (n : Nat) : (splitE s n).1.length ≤ s.length ∧ (splitE s n).2.length ≤ s.length := by
  unfold splitE; split <;> simp
theorem takeR_len (R : List UInt8) : (Nm.takeR R).length ≤ R.length := by
  unfold Nm.takeR
  cases h : Nm.take R with
  | none => simp
  | some p =>
    obtain ⟨n, r⟩ := p
    have := (Nm.take_back R n r h).1
    simp only [Option.getD_some]
    conv => rhs; rw [this]
    rw [List.length_append]; omega
theorem tkT_le (s : List UInt8) : (tkT s).1.length ≤ s.length ∧ (tkT s).2.length ≤ s.length := by
  have h := split_le (Nm.takeR s) (Nm.takeN s)
  have := takeR_len s
  unfold tkT; omega
theorem rdP_le (s : List UInt8) : (rdP s).1.key.length ≤ s.length ∧ (rdP s).2.length ≤ s.length := by
  have h := tkT_le s
  have h1 := takeR_len (tkT s).2
  have h2 := takeR_len (Nm.takeR (tkT s).2)
  have h3 := takeR_len (Nm.takeR (Nm.takeR (tkT s).2))
  unfold rdP
  exact ⟨h.1, by simp only; omega⟩
theorem rdPs_len : ∀ (k : Nat) (s : List UInt8), (rdPs k s).length = k
  | 0, _ => rfl
  | k + 1, s => by simp [rdPs, rdPs_len k]
theorem rdIx_len (s : List UInt8) : (rdIx s).length ≤ 63 := by unfold rdIx; rw [rdPs_len]; omega
theorem bys_le (t : Tv) (p : Pl) : (t.bys p).length ≤ t.blocks.length := by
  have h1 := split_le t.blocks p.beg
  have h2 := split_le (split t.blocks p.beg).2 p.size
  unfold Tv.bys; omega
theorem parts_le (s : List UInt8) : (parts s).blocks.length ≤ s.length ∧ (parts s).filter.length ≤ s.length := by
  have h1 := splitE_le s 32
  have h2 := splitE_le (pA s).1 (pF s).1
  have h3 := splitE_le (pB s).1 (pI s).1
  show (pC s).1.length ≤ _ ∧ (pB s).2.length ≤ _
  unfold pA at h2
  unfold pC
  constructor
  · unfold pB at h3 ⊢; unfold pA at h3 ⊢; omega
  · unfold pB pA; omega
theorem rd_dec (t : Tv) (p : Pl) : (t.rd p).length ≤ 32 ∧ ∀ x ∈ t.rd p, may x = true := by
  unfold Tv.rd
  cases h : Bk.dec (t.bys p) with
  | none => exact ⟨by simp, fun x hx => by simp at hx⟩
  | some l =>
    obtain ⟨h1, h2, h3, h4⟩ := Bk.isB_iff.1 (Bk.dec_back h).1
    exact ⟨h2, h3⟩
theorem upto_succ (t : Tv) {k : Nat} {p : Pl} (h : t.index[k]? = some p) : t.upto (k + 1) = t.upto k ++ t.rd p := by
  unfold Tv.upto; rw [List.take_add_one, h]; simp
theorem upto_all (t : Tv) : t.upto t.index.length = t.all := by unfold Tv.upto Tv.all; rw [List.take_length]
theorem upto_len (t : Tv) : ∀ k, (t.upto k).length ≤ 32 * k
  | 0 => by simp [Tv.upto]
  | k + 1 => by
    have ih := upto_len t k
    cases h : t.index[k]? with
    | none => unfold Tv.upto at ih ⊢; rw [List.take_add_one, h]; simp at ih ⊢; omega
    | some p => rw [upto_succ t h, List.length_append]; have := (rd_dec t p).1; omega
theorem all_may (t : Tv) : ∀ x ∈ t.all, may x = true := fun x hx => by
  unfold Tv.all at hx
  rw [List.mem_flatten] at hx
  obtain ⟨q, hq, hx⟩ := hx
  obtain ⟨p, _, rfl⟩ := List.mem_map.1 hq
  exact (rd_dec t p).2 x hx
theorem split_app (a b : List UInt8) : split (a ++ b) a.length = (a, b) := by
  unfold split; rw [if_neg (by rw [List.length_append]; omega), List.take_left, List.drop_left]
theorem splitE_app (a b : List UInt8) : splitE (a ++ b) b.length = (a, b) := by
  unfold splitE
  rw [if_neg (by rw [List.length_append]; omega), List.length_append, Nat.add_sub_cancel, List.take_left, List.drop_left]
theorem long_len (n : Nat) : (Nm.long n).length = 8 := Nm.beB_len 8 n
theorem tkL_app {n : Nat} (h : n < 18446744073709551616) (r : List UInt8) : tkL (Nm.long n ++ r) = (n, r) := by
  unfold tkL
  have := split_app (Nm.long n) r
  rw [long_len] at this
  rw [this, Nm.unl_long n h]
theorem tkT_app {k : List UInt8} (h : k.length < 18446744073709551616) (r : List UInt8) : tkT (Bt.sized k ++ r) = (k, r) := by
  unfold tkT Bt.sized
  have := Bk.takeN_short (n := k.length) h (k ++ r)
  rw [List.append_assoc, this.1, this.2, split_app]
theorem bl_last {l : List Ent} {i : Nat} (hi : i < nb l) : ∃ x, (bl l i).getLast? = some x ∧ x ∈ bl l i := by
  have hne : bl l i ≠ [] := fun q => by have := bl_len l i; rw [q] at this; unfold nb at hi; simp at this; omega
  exact ⟨_, List.getLast?_eq_some_getLast hne, List.getLast_mem hne⟩
theorem nb_le {l : List Ent} (h : isT l = true) : nb l ≤ 63 := by have := (isT_iff.1 h).2.1; unfold nb; omega
theorem out_len {l : List Ent} (h : isT l = true) : ∀ k, k ≤ nb l → (out l k).length ≤ 7000 * k
  | 0, _ => by simp [out]
  | k + 1, hk => by
    rw [out_succ, List.length_append]
    have := out_len h k (by omega)
    have := Bk.enc_len (bl_isB h (i := k) (by omega))
    omega
theorem sz_ten (n : Nat) (h : n < 18446744073709551616) : (Nm.short n).length ≤ 10 := by
  have := Bk.takeN_short h []
  have h2 := Nm.sz_le n h
  have h3 : (Nm.short n).length = Nm.sz n := Nm.shortA_len 10 n h2.2
  omega
theorem ix1_len {l : List Ent} (h : isT l = true) {i : Nat} (hi : i < nb l) : (ix1 l i).length ≤ 140 := by
  obtain ⟨x, hx, hm⟩ := bl_last hi
  obtain ⟨k1, k2, k3, k4, k5, k6⟩ := may_iff.1 ((isT_iff.1 h).2.2.1 x (bl_mem hm))
  have o1 := out_len h i (by omega)
  have o2 := Bk.enc_len (bl_isB h hi)
  have o3 := nb_le h
  unfold ix1
  rw [hx]
  unfold Bt.sized
  simp only [List.length_append]
  have := sz_ten x.key.length (by omega)
  have := sz_ten x.seq (by omega)
  have := sz_ten (out l i).length (by omega)
  have := sz_ten (Bk.enc (bl l i)).length (by omega)
  omega
theorem ix_len {l : List Ent} (h : isT l = true) : ∀ k, k ≤ nb l → (ix l k).length ≤ 140 * k
  | 0, _ => by simp [ix]
  | k + 1, hk => by
    rw [ix_succ, List.length_append]
    have := ix_len h k (by omega)
    have := ix1_len h (i := k) (by omega)
    omega
theorem idx_len {l : List Ent} (h : isT l = true) : (idx l).length ≤ 9000 := by
  have := ix_len h (nb l) (Nat.le_refl _)
  have := nb_le h
  unfold idx
  rw [List.length_append]
  have := sz_ten (nb l) (by omega)
  omega
theorem keys_len {l : List Ent} (h : isT l = true) : (keys l).length ≤ 500 := by
  have := keysU_len l l.length
  have := (isT_iff.1 h).2.1
  unfold keys; omega
theorem fl_len {l : List Ent} (h : isT l = true) : (fl l).length ≤ 501 := by
  have := keys_len h
  unfold fl; rw [Bm.made_len]; omega
theorem foot_len (l : List Ent) : (foot l).length = 32 := by
  unfold foot; simp only [List.length_append, long_len]; rfl
theorem enc_len {l : List Ent} (h : isT l = true) : (enc l).length ≤ 460000 := by
  have := out_len h (nb l) (Nat.le_refl _)
  have := nb_le h
  have := idx_len h
  have := fl_len h
  have := foot_len l
  unfold enc; simp only [List.length_append]; omega
theorem rdP_ix {l : List Ent} (h : isT l = true) {i : Nat} (hi : i < nb l) (r : List UInt8) : rdP (ix1 l i ++ r) = (pl l i, r) := by
  obtain ⟨x, hx, hm⟩ := bl_last hi
  obtain ⟨k1, k2, k3, k4, k5, k6⟩ := may_iff.1 ((isT_iff.1 h).2.2.1 x (bl_mem hm))
  have o1 := out_len h i (by omega)
  have o2 := Bk.enc_len (bl_isB h hi)
  have o3 := nb_le h
  unfold rdP ix1 pl
  rw [hx]
  simp only [List.append_assoc]
  have t := tkT_app (k := x.key) (by omega) (Nm.short x.seq ++ (Nm.short (out l i).length ++ (Nm.short (Bk.enc (bl l i)).length ++ r)))
  have a := Bk.takeN_short (n := x.seq) (by omega) (Nm.short (out l i).length ++ (Nm.short (Bk.enc (bl l i)).length ++ r))
  have b := Bk.takeN_short (n := (out l i).length) (by omega) (Nm.short (Bk.enc (bl l i)).length ++ r)
  have c := Bk.takeN_short (n := (Bk.enc (bl l i)).length) (by omega) r
  rw [t, a.1, a.2, b.1, b.2, c.1, c.2]
theorem rdPs_ix {l : List Ent} (h : isT l = true) : ∀ (c k : Nat) (r : List UInt8), k + c = nb l → rdPs c (((List.range c).map fun i => ix1 l (k + i)).flatten ++ r) = (List.range c).map fun i => pl l (k + i)
  | 0, k, r, _ => rfl
  | c + 1, k, r, hc => by
    rw [List.range_succ_eq_map]
    simp only [List.map_cons, List.flatten_cons, List.map_map, rdPs, List.append_assoc, Nat.add_zero]
    have e := rdP_ix h (i := k) (by omega) (((List.range c).map ((fun i => ix1 l (k + i)) ∘ Nat.succ)).flatten ++ r)
    rw [e]
    have ih := rdPs_ix h c (k + 1) r (by omega)
    have f : ((fun i => ix1 l (k + i)) ∘ Nat.succ) = fun i => ix1 l (k + 1 + i) := by funext i; show ix1 l (k + (i + 1)) = _; congr 1; omega
    have g : ((fun i => pl l (k + i)) ∘ Nat.succ) = fun i => pl l (k + 1 + i) := by funext i; show pl l (k + (i + 1)) = _; congr 1; omega
    rw [f, g]
    congr 1
theorem rdIx_idx {l : List Ent} (h : isT l = true) : rdIx (idx l) = (List.range (nb l)).map (pl l) := by
  unfold rdIx idx
  have o3 := nb_le h
  have t := Bk.takeN_short (n := nb l) (by omega) (ix l (nb l))
  rw [t.1, t.2, show min (nb l) 63 = nb l by omega]
  have := rdPs_ix h (nb l) 0 [] (by omega)
  simpa [ix] using this
theorem parts_of (O I F : List UInt8) (n : Nat) (hI : I.length < 18446744073709551616) (hF : F.length < 18446744073709551616) (hn : n < 9223372036854775808) :
    parts (O ++ (I ++ (F ++ (Nm.long I.length ++ (Nm.long F.length ++ (Nm.long n ++ magic)))))) = ⟨O, rdIx I, F, (n : Int)⟩ := by
  obtain ⟨s, hs⟩ : ∃ s, s = O ++ (I ++ (F ++ (Nm.long I.length ++ (Nm.long F.length ++ (Nm.long n ++ magic))))) := ⟨_, rfl⟩
  rw [← hs]
  obtain ⟨ft, hft⟩ : ∃ ft, ft = Nm.long I.length ++ (Nm.long F.length ++ (Nm.long n ++ magic)) := ⟨_, rfl⟩
  have f32 : ft.length = 32 := by rw [hft]; simp only [List.length_append, long_len]; rfl
  have eA : pA s = (O ++ (I ++ F), ft) := by
    unfold pA
    have := splitE_app (O ++ (I ++ F)) ft
    rw [f32] at this
    rw [hs, ← hft, ← this]
    simp only [List.append_assoc]
  have eI : pI s = (I.length, Nm.long F.length ++ (Nm.long n ++ magic)) := by
    have := tkL_app hI (Nm.long F.length ++ (Nm.long n ++ magic))
    rw [← hft] at this
    unfold pI; rw [eA]; exact this
  have eF : pF s = (F.length, Nm.long n ++ magic) := by
    have := tkL_app hF (Nm.long n ++ magic)
    unfold pF; rw [eI]; exact this
  have eE : pE s = (n, magic) := by
    have := tkL_app (n := n) (by omega) magic
    unfold pE; rw [eF]; exact this
  have eB : pB s = (O ++ I, F) := by
    have := splitE_app (O ++ I) F
    rw [List.append_assoc] at this
    unfold pB; rw [eA, eF]; exact this
  have eC : pC s = (O, I) := by
    have := splitE_app O I
    unfold pC; rw [eB, eI]; exact this
  unfold parts
  rw [eC, eB, eE]
  congr 1
  rw [IntKind.wrap_i64]
  simp only
  omega
theorem parts_enc {l : List Ent} (h : isT l = true) : parts (enc l) = tv l := by
  have h1 := idx_len h; have h2 := fl_len h; have h3 := (isT_iff.1 h).2.1
  have := parts_of (out l (nb l)) (idx l) (fl l) l.length (by omega) (by omega) (by omega)
  rw [rdIx_idx h] at this
  exact this
theorem tv_bys {l : List Ent} {i : Nat} (hi : i < nb l) : (tv l).bys (pl l i) = Bk.enc (bl l i) := by
  obtain ⟨x, hx, hm⟩ := bl_last hi
  unfold Tv.bys pl
  rw [hx]
  show (split (split (out l (nb l)) (out l i).length).2 (Bk.enc (bl l i)).length).1 = _
  obtain ⟨T, hT⟩ : ∃ T, out l (nb l) = out l (i + 1) ++ T := out_split l (by omega)
  rw [hT, out_succ, List.append_assoc, split_app, split_app]
theorem tv_rd {l : List Ent} (h : isT l = true) {i : Nat} (hi : i < nb l) : (tv l).rd (pl l i) = bl l i := by
  unfold Tv.rd
  rw [tv_bys hi, Bk.dec_enc (bl_isB h hi)]
  rfl
theorem tv_all {l : List Ent} (h : isT l = true) : (tv l).all = l := by
  conv => rhs; rw [← all_bl l]
  unfold Tv.all
  congr 1
  show (((List.range (nb l)).map (pl l)).map (tv l).rd) = _
  rw [List.map_map]
  exact List.map_congr_left fun i hi => tv_rd h (List.mem_range.1 hi)
theorem dec_enc {l : List Ent} (h : isT l = true) : dec (enc l) = some l := by
  have e : (parts (enc l)).all = l := by rw [parts_enc h, tv_all h]
  unfold dec
  rw [e, if_pos ⟨h, rfl⟩]
theorem dec_back {s : List UInt8} {l : List Ent} (h : dec s = some l) : isT l = true ∧ enc l = s ∧ parts s = tv l := by
  unfold dec at h
  generalize (parts s).all = a at h
  by_cases hc : isT a = true ∧ enc a = s
  · rw [if_pos hc] at h
    have e : a = l := Option.some.inj h
    have hp := parts_enc hc.1
    rw [hc.2] at hp
    rw [← e]
    exact ⟨hc.1, hc.2, hp⟩
  · rw [if_neg hc] at h; cases h
theorem dec_none {s : List UInt8} (h : dec s = none) {l : List Ent} (hl : isT l = true) : enc l ≠ s := fun e => by
  rw [← e, dec_enc hl] at h; cases h
theorem dec_some {s : List UInt8} {l : List Ent} (h : dec s = some l) : (parts s).all = l := by
  rw [(dec_back h).2.2, tv_all (dec_back h).1]
/-- which places are ahead -/
def Pl.ah (p : Pl) (k : List UInt8) (s : Nat) : Bool := ahd p.key p.seq k s
theorem pl_ah {l : List Ent} {i : Nat} {x : Ent} (h : (bl l i).getLast? = some x) (k : List UInt8) (s : Nat) : (pl l i).ah k s = x.ah k s := by
  unfold pl; rw [h]; rfl
theorem tv_at {l : List Ent} {i : Nat} {p : Pl} (h : (tv l).index[i]? = some p) : i < nb l ∧ p = pl l i := by
  have hi := (List.getElem?_eq_some_iff.1 h).1
  have hn : i < nb l := by simpa [tv] using hi
  refine ⟨hn, ?_⟩
  have : (tv l).index[i]? = some (pl l i) := by simp [tv, hn]
  rw [this] at h
  injection h with h
  exact h.symm
theorem tv_get {l : List Ent} {i : Nat} (h : i < nb l) : (tv l).index[i]? = some (pl l i) := by simp [tv, h]
theorem tv_len (l : List Ent) : (tv l).index.length = nb l := by simp [tv]
def Mono (I : List Pl) : Prop := ∀ (k : List UInt8) (s i j : Nat) (p q : Pl), I[i]? = some p → I[j]? = some q → i < j → q.ah k s = true → p.ah k s = true
theorem bl_lt {l : List Ent} (h : isT l = true) {i j : Nat} (hij : i < j) {x y : Ent} (hx : x ∈ bl l i) (hy : y ∈ bl l j) : Mg.ab x y = true := by
  obtain ⟨a, ha⟩ := List.getElem?_of_mem hx
  obtain ⟨b, hb⟩ := List.getElem?_of_mem hy
  have a8 : a < 8 := by have := (List.getElem?_eq_some_iff.1 ha).1; rw [bl_len] at this; omega
  have b8 : b < 8 := by have := (List.getElem?_eq_some_iff.1 hb).1; rw [bl_len] at this; omega
  rw [bl_get l i a a8] at ha
  rw [bl_get l j b b8] at hb
  exact (Mg.row_iff.1 (isT_iff.1 h).2.2.2).lt ha hb (by omega)
theorem tv_mono {l : List Ent} (h : isT l = true) : Mono (tv l).index := by
  intro k s i j p q hp hq hij hah
  obtain ⟨i1, rfl⟩ := tv_at hp
  obtain ⟨j1, rfl⟩ := tv_at hq
  obtain ⟨x, hx, hmx⟩ := bl_last i1
  obtain ⟨y, hy, hmy⟩ := bl_last j1
  rw [pl_ah hx]
  rw [pl_ah hy] at hah
  exact ahd_trans (bl_lt h hij hmx hmy) hah
/-- what a search among places tells: how many are ahead -/
def At (I : List Pl) (k : List UInt8) (s i : Nat) : Prop := i ≤ I.length ∧ (∀ j p, j < i → I[j]? = some p → p.ah k s = true) ∧ ∀ p, I[i]? = some p → p.ah k s = false
theorem at_back {l : List Ent} {k : List UInt8} {s i : Nat} (h : At (tv l).index k s i) : ∀ j y, j < i → (bl l j).getLast? = some y → y.ah k s = true := fun j y hj hy => by
  have h1 := h.1
  rw [tv_len] at h1
  have := h.2.1 j (pl l j) hj (tv_get (by omega))
  rwa [pl_ah hy] at this
theorem at_not {l : List Ent} {k : List UInt8} {s i : Nat} (h : At (tv l).index k s i) (hi : i < nb l) : ∀ y, (bl l i).getLast? = some y → y.ah k s = false := fun y hy => by
  have := h.2.2 (pl l i) (tv_get hi)
  rwa [pl_ah hy] at this
theorem last_bl {l : List Ent} (h : isT l = true) : l.getLast? = (bl l (nb l - 1)).getLast? := by
  have h1 := (isT_iff.1 h).1
  rw [List.getLast?_eq_getElem?, List.getLast?_eq_getElem?, bl_len, bl_get]
  · congr 1; unfold nb; omega
  · unfold nb; omega
def lastE (l : List Ent) : Ent := l.getLast?.getD zent
/-- how many blocks are read -/
def cost (l : List Ent) (k : List UInt8) (s : Nat) : Nat := if Bm.may (fl l) k = true ∧ (lastE l).ah k s = false then 1 else 0
theorem at_out {l : List Ent} (h : isT l = true) {k : List UInt8} {s i : Nat} (ha : At (tv l).index k s i) : i < nb l ↔ (lastE l).ah k s = false := by
  have hn := nb_pos (isT_iff.1 h).1
  have h1 := ha.1
  rw [tv_len] at h1
  obtain ⟨y, hy, _⟩ := bl_last (l := l) (i := nb l - 1) (by omega)
  have e : lastE l = y := by unfold lastE; rw [last_bl h, hy]; rfl
  rw [e]
  constructor
  · intro hi
    cases hv : y.ah k s with
    | false => rfl
    | true =>
      have hp : (tv l).index[i]? = some (pl l i) := tv_get hi
      have hnot := ha.2.2 _ hp
      by_cases c : i = nb l - 1
      · subst c; rw [pl_ah hy, hv] at hnot; cases hnot
      · have := tv_mono h k s i (nb l - 1) _ (pl l (nb l - 1)) hp (tv_get (by omega)) (by omega) (by rw [pl_ah hy]; exact hv)
        rw [this] at hnot; cases hnot
  · intro hv
    by_cases hi : i < nb l
    · exact hi
    · have := at_back ha (nb l - 1) y (by omega) hy
      rw [this] at hv; cases hv
theorem ah_first {r : List Ent} (h : Mg.Rw r) {k : List UInt8} {s : Nat} {x : Ent} (hx : r.find? (fun x => !x.ah k s) = some x) : r.find? (mt k s) = if x.key = k then some x else none := by
  obtain ⟨h1, as, bs', e, h2⟩ := List.find?_eq_some_iff_append.1 hx
  have := Mg.up_find h (k := k) (s := s) (i := as.length) (fun j y hj hy => by
    rw [e, List.getElem?_append_left hj] at hy
    have := h2 y (List.mem_of_getElem? hy)
    simpa using this) (fun y hy => by
    rw [e, List.getElem?_append_right (Nat.le_refl _), Nat.sub_self] at hy
    simp at hy
    subst hy
    simpa using h1)
  rw [this, e, List.getElem?_append_right (Nat.le_refl _), Nat.sub_self]
  rfl
theorem first_some {l : List Ent} {i : Nat} {k : List UInt8} {s : Nat} (hi : i < nb l) (h : ∀ y, (bl l i).getLast? = some y → y.ah k s = false) : ∃ x, (bl l i).find? (fun x => !x.ah k s) = some x := by
  obtain ⟨y, hy, hm⟩ := bl_last hi
  cases hf : (bl l i).find? (fun x => !x.ah k s) with
  | some x => exact ⟨x, rfl⟩
  | none =>
    have := List.find?_eq_none.1 hf y hm
    rw [h y hy] at this
    simp at this
theorem get_at {l : List Ent} (h : isT l = true) {k : List UInt8} {s i : Nat} (ha : At (tv l).index k s i) (hi : i < nb l) : ∃ x, (bl l i).find? (fun x => !x.ah k s) = some x ∧ l.find? (mt k s) = if x.key = k then some x else none := by
  obtain ⟨x, hx⟩ := first_some hi (at_not ha hi)
  refine ⟨x, hx, ?_⟩
  rw [find_at h (at_back ha) (at_not ha hi) hi]
  have hr : Mg.Rw (bl l i) := ((Mg.row_iff.1 (isT_iff.1 h).2.2.2).sublist (List.drop_sublist _ _)).sublist (List.take_sublist _ _)
  exact ah_first hr hx
theorem get_no {l : List Ent} (h : isT l = true) {k : List UInt8} {s i : Nat} (ha : At (tv l).index k s i) (hi : ¬ i < nb l) : l.find? (mt k s) = none := by
  have h1 := ha.1
  rw [tv_len] at h1
  have e : i = nb l := by omega
  subst e
  exact find_out h fun j y hj hy => at_back ha j y hj hy
def keyP (k : List UInt8) (x : Ent) : Bool := !decide (x.key < k)
/-- the first n entries from a key on -/
def frm (l : List Ent) (k : List UInt8) (n : Nat) : List Ent := (l.filter (keyP k)).take n
theorem ah_max {l : List Ent} (h : isT l = true) {k : List UInt8} {x : Ent} (hx : x ∈ l) : x.ah k 18446744073709551615 = decide (x.key < k) := by
  obtain ⟨_, _, _, _, _, k6⟩ := may_iff.1 ((isT_iff.1 h).2.2.1 x hx)
  unfold Ent.ah ahd
  split
  · rename_i e
    subst e
    rw [decide_eq_false (by omega), decide_eq_false (lt_irrefl _)]
  · rfl
/-- ahead of the first block that isn't, there is nothing from the key on -/
theorem frm_skip {l : List Ent} (h : isT l = true) {k : List UInt8} {i : Nat} (ha : At (tv l).index k 18446744073709551615 i) : (l.take (8 * i)).filter (keyP k) = [] := by
  rw [List.filter_eq_nil_iff, ← take_bl]
  intro x hx hp
  rw [List.mem_flatten] at hx
  obtain ⟨q, hq, hxq⟩ := hx
  obtain ⟨j, hj, rfl⟩ := List.mem_map.1 hq
  have := bl_ahead h (fun y hy => at_back ha j y (List.mem_range.1 hj) hy) hxq
  rw [ah_max h (bl_mem hxq)] at this
  unfold keyP at hp
  rw [this] at hp
  simp at hp
theorem take_bl_succ (l : List Ent) (i : Nat) : l.take (8 * (i + 1)) = l.take (8 * i) ++ bl l i := by
  rw [show 8 * (i + 1) = 8 * i + 8 by omega, List.take_add]; rfl
theorem take_all_bl (l : List Ent) : l.take (8 * nb l) = l := List.take_of_length_le (by unfold nb; omega)
end Tb
end Go.Proofs.Ytecjnebfhbdnaaa
