/-
  Tables in plain mathematics: a row's bytes as blocks, index, filter and foot; no table's bytes are a beginning of another one's.
-/
import Derived.Test.YtecjnebfhbdnaaaPackMath
namespace Go.Proofs.Ytecjnebfhbdnaaa
set_option linter.unusedVariables false
set_option maxRecDepth 100000
namespace Bk
open Mm
theorem E_congr {l m : List Ent} {k : Nat} (h : l.take k = m.take k) : E l k = E m k := by
  have hi : ∀ i, i < k → l[i]? = m[i]? := fun i hi => by
    have := congrArg (fun q : List Ent => q[i]?) h
    simpa [List.getElem?_take, hi] using this
  unfold E
  congr 1
  refine List.map_congr_left fun i hr => ?_
  have hik := List.mem_range.1 hr
  unfold piece shr keyAt
  rw [hi i hik, hi (i - 1) (by omega)]
theorem pre_congr {l m : List Ent} {k : Nat} (h : l.take k = m.take k) : pre l k = pre m k := by
  unfold pre keyAt
  split
  · rfl
  · have := congrArg (fun q : List Ent => q[k - 1]?) h
    have h2 : l[k - 1]? = m[k - 1]? := by simpa [List.getElem?_take, show k - 1 < k by omega] using this
    rw [h2]
theorem E_split (l : List Ent) {j k : Nat} (h : j ≤ k) : ∃ T, E l k = E l j ++ T := ⟨F l j (k - j), by rw [F_app, show j + (k - j) = k by omega]⟩
theorem P_front (l : List Ent) : ∀ k, 1 ≤ k → ∃ T, P l k = Nm.long 0 ++ T
  | 0, h => by omega
  | 1, _ => ⟨[], by rw [P_yes (by omega), P_zero, E_zero]; simp⟩
  | k + 2, _ => by
    obtain ⟨T, hT⟩ := P_front l (k + 1) (by omega)
    by_cases h : (k + 1) % 4 = 0
    · exact ⟨T ++ Nm.long (E l (k + 1)).length, by rw [P_yes h, hT, List.append_assoc]⟩
    · exact ⟨T, by rw [P_no h, hT]⟩
theorem long_zero : Nm.long 0 = [0, 0, 0, 0, 0, 0, 0, 0] := by rw [Nm.long_eq]; rfl
theorem takeN_zero (s : List UInt8) : Nm.takeN (0 :: s) = 0 ∧ Nm.takeR (0 :: s) = s := by
  unfold Nm.takeN Nm.takeR Nm.take Nm.takeL
  exact ⟨rfl, rfl⟩
/-- no entry's bytes begin with two bytes that are 0 -/
theorem encE_zero {n : Nat} {x : Ent} (hx : may x = true) (hn : n ≤ x.key.length) (h0 : n < x.key.length ∨ n = 0) {T S : List UInt8} (h : encE n x ++ T = 0 :: 0 :: S) : False := by
  obtain ⟨k1, k2, k3, k4, k5, k6⟩ := may_iff.1 hx
  unfold encE Bt.sized at h
  simp only [List.append_assoc, List.cons_append] at h
  have h1 := takeN_short (n := n) (by omega) (Nm.short (x.key.drop n).length ++ (x.key.drop n ++ (Nm.short x.seq ++ (mk x.del :: (Nm.short x.val.length ++ (x.val ++ T))))))
  rw [h, (takeN_zero _).1, (takeN_zero _).2] at h1
  have hn0 : n = 0 := h1.1.symm
  have h2 := takeN_short (n := (x.key.drop n).length) (by rw [List.length_drop]; omega) (x.key.drop n ++ (Nm.short x.seq ++ (mk x.del :: (Nm.short x.val.length ++ (x.val ++ T)))))
  rw [← h1.2, (takeN_zero _).1, List.length_drop] at h2
  omega
/-- two blocks that the same bytes begin with are the same -/
theorem apart {l m : List Ent} (hl : isB l = true) (hm : isB m = true) {a b : List UInt8} (h : enc l ++ a = enc m ++ b) : l = m := by
  obtain ⟨l1, l2, l3, l4⟩ := isB_iff.1 hl
  obtain ⟨m1, m2, m3, m4⟩ := isB_iff.1 hm
  have key : ∀ k, k ≤ l.length → k ≤ m.length → l.take k = m.take k := by
    intro k
    induction k with
    | zero => intro _ _; simp
    | succ k ih =>
      intro h1 h2
      have ht := ih (by omega) (by omega)
      have hx : l[k]? = some l[k] := List.getElem?_eq_getElem (by omega)
      have hy : m[k]? = some m[k] := List.getElem?_eq_getElem (by omega)
      have mx : l[k] ∈ l := List.getElem_mem (by omega)
      have my : m[k] ∈ m := List.getElem_mem (by omega)
      rw [List.take_add_one, List.take_add_one, ht, hx, hy]
      generalize l[k] = x at hx mx
      generalize m[k] = y at hy my
      obtain ⟨T1, e1⟩ := E_split l h1
      obtain ⟨T2, e2⟩ := E_split m h2
      unfold enc at h
      rw [e1, e2, E_succ, E_succ, E_congr ht, piece_is hx, piece_is hy] at h
      simp only [List.append_assoc] at h
      have h3 := List.append_cancel_left h
      obtain ⟨s1, s2⟩ := shr_take hx
      obtain ⟨r1, r2⟩ := shr_take hy
      have q1 := rdE_enc (T := T1 ++ (P l l.length ++ (Nm.long l.length ++ a))) (l3 x mx) s1 (shr_le hx) s2
      have q2 := rdE_enc (T := T2 ++ (P m m.length ++ (Nm.long m.length ++ b))) (m3 y my) r1 (shr_le hy) r2
      rw [h3, pre_congr ht, q2] at q1
      injection q1 with q1 _
      rw [q1]
  have noMore : ∀ {l m : List Ent} {a b : List UInt8}, 1 ≤ l.length → l.length < m.length → (∀ x ∈ m, may x = true) → l.take l.length = m.take l.length → enc l ++ a = enc m ++ b → False := by
    intro l m a b h1 h2 h3 ht h
    have hy : m[l.length]? = some m[l.length] := List.getElem?_eq_getElem h2
    have my : m[l.length] ∈ m := List.getElem_mem h2
    generalize m[l.length] = y at hy my
    obtain ⟨T2, e2⟩ := E_split m (show l.length + 1 ≤ m.length by omega)
    obtain ⟨T, hT⟩ := P_front l l.length h1
    unfold enc at h
    rw [e2, E_succ, E_congr ht, piece_is hy, hT, long_zero] at h
    simp only [List.append_assoc, List.cons_append] at h
    have h3' := List.append_cancel_left h
    have hs := shr_le hy
    by_cases he : shr m l.length = y.key.length ∧ y.key.length ≠ 0
    · have q1 := takeN_short (n := shr m l.length) (by obtain ⟨_, _, _⟩ := may_iff.1 (h3 y my); omega) (Bt.sized (y.key.drop (shr m l.length)) ++ (Nm.short y.seq ++ (mk y.del :: (Bt.sized y.val ++ (T2 ++ (P m m.length ++ (Nm.long m.length ++ b)))))))
      unfold encE at h3'
      simp only [List.append_assoc, List.cons_append] at h3'
      rw [← h3', (takeN_zero _).1] at q1
      omega
    · exact encE_zero (h3 y my) hs (by have := (may_iff.1 (h3 y my)).1; omega) h3'.symm
  rcases Nat.lt_trichotomy l.length m.length with hlt | heq | hgt
  · exact (noMore l1 hlt m3 (key _ (Nat.le_refl _) (by omega)) h).elim
  · have := key l.length (Nat.le_refl _) (by omega)
    rwa [List.take_length, heq, List.take_length] at this
  · exact (noMore m1 hgt l3 (key _ (by omega) (Nat.le_refl _)).symm h.symm).elim
/-- a block's bytes begin with a byte that is 0 and one that isn't -/
theorem enc_front {l : List Ent} (hl : isB l = true) : ∃ c T, enc l = 0 :: c :: T ∧ c ≠ 0 := by
  obtain ⟨l1, l2, l3, l4⟩ := isB_iff.1 hl
  have hx : l[0]? = some l[0] := List.getElem?_eq_getElem (by omega)
  have mx : l[0] ∈ l := List.getElem_mem (by omega)
  generalize l[0] = x at hx mx
  obtain ⟨k1, k2, _⟩ := may_iff.1 (l3 x mx)
  obtain ⟨T1, e1⟩ := E_split l l1
  have hs : shr l 0 = 0 := rfl
  have h1 : ∀ n, 1 ≤ n → n ≤ 100 → Nm.short n = [n.toUInt8] := by
    intro n h1 h2
    have : ∀ n : Fin 101, 1 ≤ n.val → Nm.short n.val = [n.val.toUInt8] := by decide
    exact this ⟨n, by omega⟩ h1
  have h0 : Nm.short 0 = [0] := by decide
  refine ⟨x.key.length.toUInt8, x.key ++ (Nm.short x.seq ++ (mk x.del :: (Bt.sized x.val ++ (T1 ++ (P l l.length ++ Nm.long l.length))))), ?_, ?_⟩
  · unfold enc
    rw [e1, show (1 : Nat) = 0 + 1 from rfl, E_succ, E_zero, piece_is hx, hs]
    unfold encE
    rw [h0, List.drop_zero]
    unfold Bt.sized
    rw [h1 _ k1 k2]
    simp
  · intro h
    have := congrArg UInt8.toNat h
    rw [Nm.u8_mod] at this
    simp at this
    omega
end Bk
namespace Tb
open Mm
def bl (l : List Ent) (i : Nat) : List Ent := (l.drop (8 * i)).take 8
def nb (l : List Ent) : Nat := (l.length + 7) / 8
/-- the bytes of the first k blocks -/
def out (l : List Ent) (k : Nat) : List UInt8 := ((List.range k).map fun i => Bk.enc (bl l i)).flatten
def ix1 (l : List Ent) (i : Nat) : List UInt8 := match (bl l i).getLast? with
  | none => []
  | some x => Bt.sized x.key ++ (Nm.short x.seq ++ (Nm.short (out l i).length ++ Nm.short (Bk.enc (bl l i)).length))
def ix (l : List Ent) (k : Nat) : List UInt8 := ((List.range k).map (ix1 l)).flatten
def idx (l : List Ent) : List UInt8 := Nm.short (nb l) ++ ix l (nb l)
def kst (l : List Ent) (i : Nat) : List (List UInt8) := match l[i]? with
  | none => []
  | some x => if i = 0 ∨ Bk.keyAt l (i - 1) ≠ x.key then [x.key] else []
/-- the keys of the first k entries, each once -/
def keysU (l : List Ent) (k : Nat) : List (List UInt8) := ((List.range k).map (kst l)).flatten
def keys (l : List Ent) : List (List UInt8) := keysU l l.length
def fl (l : List Ent) : List UInt8 := Bm.made (keys l)
def magic : List UInt8 := [115, 99, 114, 101, 101, 48, 48, 49]
def foot (l : List Ent) : List UInt8 := Nm.long (idx l).length ++ (Nm.long (fl l).length ++ (Nm.long l.length ++ magic))
def enc (l : List Ent) : List UInt8 := out l (nb l) ++ (idx l ++ (fl l ++ foot l))
def isT (l : List Ent) : Bool := decide (1 ≤ l.length) && decide (l.length ≤ 500) && l.all may && Mg.row l
def encS (l : List Ent) : List UInt8 := if isT l then enc l else []
def encC (l : List Ent) : Int := if isT l then 0 else 2
theorem isT_iff {l : List Ent} : isT l = true ↔ 1 ≤ l.length ∧ l.length ≤ 500 ∧ (∀ x ∈ l, may x = true) ∧ Mg.row l = true := by
  unfold isT; simp [and_assoc]
theorem out_succ (l : List Ent) (k : Nat) : out l (k + 1) = out l k ++ Bk.enc (bl l k) := by unfold out; rw [List.range_succ, List.map_append, List.flatten_append]; simp
theorem ix_succ (l : List Ent) (k : Nat) : ix l (k + 1) = ix l k ++ ix1 l k := by unfold ix; rw [List.range_succ, List.map_append, List.flatten_append]; simp
theorem keysU_succ (l : List Ent) (k : Nat) : keysU l (k + 1) = keysU l k ++ kst l k := by unfold keysU; rw [List.range_succ, List.map_append, List.flatten_append]; simp
theorem nb_pos {l : List Ent} (h : 1 ≤ l.length) : 1 ≤ nb l := by unfold nb; omega
theorem bl_len (l : List Ent) (i : Nat) : (bl l i).length = min 8 (l.length - 8 * i) := by unfold bl; rw [List.length_take, List.length_drop]
theorem bl_get (l : List Ent) (i j : Nat) (h : j < 8) : (bl l i)[j]? = l[8 * i + j]? := by unfold bl; rw [List.getElem?_take, if_pos h, List.getElem?_drop]
theorem bl_mem {l : List Ent} {i : Nat} {x : Ent} (h : x ∈ bl l i) : x ∈ l := List.mem_of_mem_drop (List.mem_of_mem_take h)
theorem bl_isB {l : List Ent} (h : isT l = true) {i : Nat} (hi : i < nb l) : Bk.isB (bl l i) = true := by
  obtain ⟨h1, h2, h3, h4⟩ := isT_iff.1 h
  refine Bk.isB_iff.2 ⟨by rw [bl_len]; unfold nb at hi; omega, by rw [bl_len]; omega, fun x hx => h3 x (bl_mem hx), Mg.row_iff.2 ?_⟩
  unfold bl
  exact ((Mg.row_iff.1 h4).sublist (List.drop_sublist _ _)).sublist (List.take_sublist _ _)
theorem take_bl (l : List Ent) : ∀ k, ((List.range k).map (bl l)).flatten = l.take (8 * k)
  | 0 => by simp
  | k + 1 => by
    rw [List.range_succ, List.map_append, List.flatten_append, take_bl l k, show 8 * (k + 1) = 8 * k + 8 by omega, List.take_add]
    simp [bl]
theorem all_bl (l : List Ent) : ((List.range (nb l)).map (bl l)).flatten = l := by
  rw [take_bl, List.take_of_length_le (by unfold nb; omega)]
theorem out_split (l : List Ent) {j k : Nat} (h : j ≤ k) : ∃ T, out l k = out l j ++ T := by
  obtain ⟨d, rfl⟩ : ∃ d, k = j + d := ⟨k - j, by omega⟩
  clear h
  induction d with
  | zero => exact ⟨[], by simp⟩
  | succ d ih => obtain ⟨T, hT⟩ := ih; exact ⟨T ++ Bk.enc (bl l (j + d)), by rw [← Nat.add_assoc, out_succ, hT, List.append_assoc]⟩
/-- no table's bytes are a beginning of another one's -/
theorem apart {l m : List Ent} (hl : isT l = true) (hm : isT m = true) {a b : List UInt8} (h : enc l ++ a = enc m ++ b) : l = m := by
  have key : ∀ k, k ≤ nb l → k ≤ nb m → ∀ i, i < k → bl l i = bl m i := by
    intro k
    induction k with
    | zero => intro _ _ i hi; omega
    | succ k ih =>
      intro h1 h2 i hi
      have hs := ih (by omega) (by omega)
      by_cases e : i < k
      · exact hs i e
      · have ek : i = k := by omega
        subst ek
        have ho : out l i = out m i := by
          unfold out
          congr 1
          exact List.map_congr_left fun j hj => by rw [hs j (List.mem_range.1 hj)]
        obtain ⟨T1, e1⟩ : ∃ T, out l (nb l) = out l (i + 1) ++ T := out_split l h1
        obtain ⟨T2, e2⟩ : ∃ T, out m (nb m) = out m (i + 1) ++ T := out_split m h2
        unfold enc at h
        rw [e1, e2, out_succ, out_succ, ho] at h
        simp only [List.append_assoc] at h
        exact Bk.apart (bl_isB hl (by omega)) (bl_isB hm (by omega)) (List.append_cancel_left h)
  have noMore : ∀ {l m : List Ent} {a b : List UInt8}, isT l = true → isT m = true → nb l < nb m → (∀ i, i < nb l → bl l i = bl m i) → enc l ++ a = enc m ++ b → False := by
    intro l m a b hl hm hlt hs h
    have ho : out l (nb l) = out m (nb l) := by
      unfold out
      congr 1
      exact List.map_congr_left fun j hj => by rw [hs j (List.mem_range.1 hj)]
    obtain ⟨T2, e2⟩ : ∃ T, out m (nb m) = out m (nb l + 1) ++ T := out_split m hlt
    obtain ⟨c, T, hf, _⟩ := Bk.enc_front (bl_isB hm hlt)
    unfold enc idx at h
    rw [e2, out_succ, ho, hf] at h
    simp only [List.append_assoc, List.cons_append] at h
    have h3 := List.append_cancel_left h
    have q := Bk.takeN_short (n := nb l) (by have := (isT_iff.1 hl).2.1; unfold nb; omega) (ix l (nb l) ++ (fl l ++ (foot l ++ a)))
    rw [h3, (Bk.takeN_zero _).1] at q
    have := nb_pos (isT_iff.1 hl).1
    omega
  rcases Nat.lt_trichotomy (nb l) (nb m) with hlt | heq | hgt
  · exact (noMore hl hm hlt (key _ (Nat.le_refl _) (by omega)) h).elim
  · rw [← all_bl l, ← all_bl m, ← heq]
    congr 1
    exact List.map_congr_left fun j hj => key (nb l) (Nat.le_refl _) (by omega) j (List.mem_range.1 hj)
  · exact (noMore hm hl hgt (fun i hi => (key _ (by omega) (Nat.le_refl _) i hi).symm) h.symm).elim
theorem enc_inj {l m : List Ent} (hl : isT l = true) (hm : isT m = true) (h : enc l = enc m) : l = m := apart hl hm (a := []) (b := []) (by rw [h])
theorem enc_front {l : List Ent} (hl : isT l = true) : ∃ c T, enc l = 0 :: c :: T ∧ c ≠ 0 := by
  have h1 := nb_pos (isT_iff.1 hl).1
  obtain ⟨c, T, hf, hc⟩ := Bk.enc_front (bl_isB hl (i := 0) (by omega))
  obtain ⟨T1, e1⟩ : ∃ T, out l (nb l) = out l (0 + 1) ++ T := out_split l h1
  refine ⟨c, T ++ (T1 ++ (idx l ++ (fl l ++ foot l))), ?_, hc⟩
  unfold enc
  rw [e1, out_succ, hf, show out l 0 = [] from rfl]
  simp
/-- bytes that are 0 ahead of a table's -/
theorem cut_front {l m : List Ent} (hl : isT l = true) (hm : isT m = true) (n : Nat) : List.replicate (n + 1) 0 ++ enc l ≠ enc m := fun h => by
  obtain ⟨c, T, hf, hc⟩ := enc_front hm
  obtain ⟨d, S, hg, hd⟩ := enc_front hl
  rw [hf, hg] at h
  cases n with
  | zero => simp at h; exact hc h.1.symm
  | succ n => simp [List.replicate_succ] at h; exact hc h.1.symm
/-- a table's bytes of which some at the end are cut off -/
theorem cut_back {l m : List Ent} (hl : isT l = true) (hm : isT m = true) (n : Nat) (hn : n < (enc l).length) : (enc l).take n ≠ enc m := fun h => by
  have e : enc l ++ [] = enc m ++ (enc l).drop n := by rw [← h, List.take_append_drop, List.append_nil]
  have := apart hl hm e
  subst this
  have := congrArg List.length h
  rw [List.length_take] at this
  omega
theorem encS_yes {l : List Ent} (h : isT l = true) : encS l = enc l ∧ encC l = 0 := by unfold encS encC; rw [h]; exact ⟨rfl, rfl⟩
theorem encS_no {l : List Ent} (h : isT l = false) : encS l = [] ∧ encC l = 2 := by unfold encS encC; rw [h]; exact ⟨rfl, rfl⟩
theorem kst_len (l : List Ent) (i : Nat) : (kst l i).length ≤ 1 := by
  unfold kst
  split
  · simp
  · split <;> simp
theorem keysU_len (l : List Ent) : ∀ k, (keysU l k).length ≤ k
  | 0 => by simp [keysU]
  | k + 1 => by rw [keysU_succ, List.length_append]; have := keysU_len l k; have := kst_len l k; omega
theorem keysU_has (l : List Ent) : ∀ (i : Nat) (x : Ent) (k : Nat), l[i]? = some x → i < k → x.key ∈ keysU l k := by
  intro i
  induction i with
  | zero =>
    intro x k hx hk
    unfold keysU
    rw [List.mem_flatten]
    exact ⟨kst l 0, List.mem_map.2 ⟨0, List.mem_range.2 hk, rfl⟩, by unfold kst; rw [hx]; simp⟩
  | succ i ih =>
    intro x k hx hk
    have hi := (List.getElem?_eq_some_iff.1 hx).1
    by_cases he : Bk.keyAt l i = x.key
    · have hy : l[i]? = some l[i] := List.getElem?_eq_getElem (by omega)
      generalize l[i] = y at hy
      rw [Bk.keyAt_some hy] at he
      rw [← he]
      exact ih y k hy (by omega)
    · unfold keysU
      rw [List.mem_flatten]
      exact ⟨kst l (i + 1), List.mem_map.2 ⟨i + 1, List.mem_range.2 hk, rfl⟩, by unfold kst; rw [hx, Nat.add_sub_cancel]; simp [he]⟩
theorem keys_has {l : List Ent} {x : Ent} (h : x ∈ l) : x.key ∈ keys l := by
  obtain ⟨i, hi, rfl⟩ := List.getElem_of_mem h
  exact keysU_has l i _ _ (List.getElem?_eq_getElem hi) hi
theorem keysU_only {l : List Ent} {k : Nat} {y : List UInt8} (h : y ∈ keysU l k) : ∃ x ∈ l, x.key = y := by
  unfold keysU at h
  rw [List.mem_flatten] at h
  obtain ⟨q, hq, hy⟩ := h
  obtain ⟨i, _, rfl⟩ := List.mem_map.1 hq
  unfold kst at hy
  split at hy
  · simp at hy
  · rename_i x hx
    split at hy
    · rw [List.mem_singleton] at hy; exact ⟨x, List.mem_of_getElem? hx, hy.symm⟩
    · simp at hy
theorem may_no {l : List Ent} {k : List UInt8} (h : Bm.may (fl l) k = false) {x : Ent} (hx : x ∈ l) : x.key ≠ k := fun e => by
  have := Bm.made_may (keys_has hx)
  rw [e] at this
  unfold fl at h
  rw [this] at h; cases h
theorem may_none {l : List Ent} {k : List UInt8} {s : Nat} (h : Bm.may (fl l) k = false) : l.find? (mt k s) = none := by
  rw [List.find?_eq_none]
  intro x hx hm
  exact may_no h hx (mt_iff.1 hm).1
theorem bl_ahead {l : List Ent} (h : isT l = true) {k : List UInt8} {s j : Nat} (h1 : ∀ y, (bl l j).getLast? = some y → y.ah k s = true) {x : Ent} (hx : x ∈ bl l j) : x.ah k s = true := by
  have hne : bl l j ≠ [] := List.ne_nil_of_mem hx
  have hl := List.getLast?_eq_some_getLast hne
  have hy := h1 _ hl
  have hr : Mg.Rw (bl l j) := ((Mg.row_iff.1 (isT_iff.1 h).2.2.2).sublist (List.drop_sublist _ _)).sublist (List.take_sublist _ _)
  have e := List.dropLast_concat_getLast hne
  generalize (bl l j).getLast hne = y at e hy hl
  generalize (bl l j).dropLast = D at e
  rw [← e] at hx hr
  rcases List.mem_append.1 hx with hx | hx
  · have := (List.pairwise_append.1 hr).2.2 x hx y (List.mem_singleton.2 rfl)
    exact ahd_trans this hy
  · rw [List.mem_singleton] at hx; rw [hx]; exact hy
theorem find_ahead {l : List Ent} (h : isT l = true) {k : List UInt8} {s i : Nat} (h1 : ∀ j y, j < i → (bl l j).getLast? = some y → y.ah k s = true) : (l.take (8 * i)).find? (mt k s) = none := by
  rw [List.find?_eq_none, ← take_bl]
  intro x hx hm
  rw [List.mem_flatten] at hx
  obtain ⟨q, hq, hxq⟩ := hx
  obtain ⟨j, hj, rfl⟩ := List.mem_map.1 hq
  have := bl_ahead h (fun y hy => h1 j y (List.mem_range.1 hj) hy) hxq
  rw [mt_ahead this] at hm; cases hm
/-- all entries are ahead -/
theorem find_out {l : List Ent} (h : isT l = true) {k : List UInt8} {s : Nat} (h1 : ∀ j y, j < nb l → (bl l j).getLast? = some y → y.ah k s = true) : l.find? (mt k s) = none := by
  have := find_ahead h h1
  rwa [List.take_of_length_le (by unfold nb; omega)] at this
/-- what is sought lies in the first block whose last entry isn't ahead -/
theorem find_at {l : List Ent} (h : isT l = true) {k : List UInt8} {s i : Nat} (h1 : ∀ j y, j < i → (bl l j).getLast? = some y → y.ah k s = true) (h2 : ∀ y, (bl l i).getLast? = some y → y.ah k s = false) (hi : i < nb l) : l.find? (mt k s) = (bl l i).find? (mt k s) := by
  have e : l = l.take (8 * i) ++ (bl l i ++ l.drop (8 * i + 8)) := by
    unfold bl
    rw [← List.drop_drop, List.take_append_drop, List.take_append_drop]
  have hr := Mg.row_iff.1 (isT_iff.1 h).2.2.2
  unfold Mg.Rw at hr
  rw [e, List.pairwise_append, List.pairwise_append] at hr
  have hne : bl l i ≠ [] := fun q => by have := bl_len l i; rw [q] at this; unfold nb at hi; simp at this; omega
  have hl := List.getLast?_eq_some_getLast hne
  have hy := h2 _ hl
  have hym : (bl l i).getLast hne ∈ bl l i := List.getLast_mem hne
  generalize (bl l i).getLast hne = y at hl hy hym
  conv => lhs; rw [e]
  rw [List.find?_append, find_ahead h h1, Option.none_or, List.find?_append]
  cases hf : (bl l i).find? (mt k s) with
  | some z => rfl
  | none =>
    rw [Option.none_or, List.find?_eq_none]
    intro z hz hm
    have hab := hr.2.1.2.2 y hym z hz
    obtain ⟨m1, m2⟩ := mt_iff.1 hm
    have hnm := List.find?_eq_none.1 hf y hym
    have hna : ¬ (y.key < k ∨ (y.key = k ∧ s < y.seq)) := fun q => by
      have := (ahd_iff (k := y.key) (s := y.seq) (k' := k) (s' := s)).2 q
      unfold Ent.ah at hy
      rw [this] at hy; cases hy
    rcases Mg.ab_iff.1 hab with q | ⟨q, q2⟩
    · rw [m1] at q; exact hna (.inl q)
    · exact hnm (mt_iff.2 ⟨q.trans m1, by
        by_cases c : s < y.seq
        · exact absurd (.inr ⟨q.trans m1, c⟩) hna
        · omega⟩)
end Tb
end Go.Proofs.Ytecjnebfhbdnaaa
