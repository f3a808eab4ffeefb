/-
  Blocks in plain mathematics: what two texts share, a row's bytes, how they are read back.
-/
import Derived.Test.YtpnabojfliphpaaMergeMath
import Derived.Test.YtpnabojfliphpaaBatchMath
namespace Go.Proofs.Ytpnabojfliphpaa
set_option linter.unusedVariables false
set_option maxRecDepth 100000
namespace Bk
open Mm
/-- how many bytes two texts share -/
def sh : List UInt8 → List UInt8 → Nat
  | a :: x, b :: y => if a = b then sh x y + 1 else 0
  | _, _ => 0
theorem sh_nil (b : List UInt8) : sh [] b = 0 := by cases b <;> rfl
theorem sh_nil2 (a : List UInt8) : sh a [] = 0 := by cases a <;> rfl
theorem sh_le : ∀ (a b : List UInt8), sh a b ≤ a.length ∧ sh a b ≤ b.length
  | [], b => by rw [sh_nil]; simp
  | a :: x, [] => by rw [sh_nil2]; simp
  | a :: x, b :: y => by
    have := sh_le x y
    simp only [sh, List.length_cons]
    split <;> omega
theorem sh_comm : ∀ (a b : List UInt8), sh a b = sh b a
  | [], b => by rw [sh_nil, sh_nil2]
  | a :: x, [] => by rw [sh_nil, sh_nil2]
  | a :: x, b :: y => by
    have := sh_comm x y
    simp only [sh, this, eq_comm]
theorem sh_self : ∀ (a : List UInt8), sh a a = a.length
  | [] => rfl
  | a :: x => by simp [sh, sh_self x]
theorem sh_app : ∀ (m a b : List UInt8), sh (m ++ a) (m ++ b) = m.length + sh a b
  | [], a, b => by simp
  | c :: m, a, b => by simp [sh, sh_app m a b]; omega
theorem sh_take : ∀ (a b : List UInt8), a.take (sh a b) = b.take (sh a b)
  | [], b => by rw [sh_nil]; simp
  | a :: x, [] => by rw [sh_nil2]; simp
  | a :: x, b :: y => by
    have := sh_take x y
    simp only [sh]
    split
    · rename_i h; subst h; simp [this]
    · simp
theorem sh_get : ∀ (a b : List UInt8) (j : Nat), j < sh a b → a[j]? = b[j]?
  | [], b, j, h => by rw [sh_nil] at h; omega
  | a :: x, [], j, h => by rw [sh_nil2] at h; omega
  | a :: x, b :: y, j, h => by
    simp only [sh] at h
    split at h
    · rename_i e
      subst e
      cases j with
      | zero => rfl
      | succ j => simpa using sh_get x y j (by omega)
    · omega
theorem sh_end : ∀ (a b : List UInt8), sh a b < a.length → sh a b < b.length → a[sh a b]? ≠ b[sh a b]?
  | [], b, h, _ => by simp at h
  | a :: x, [], _, h => by simp at h
  | a :: x, b :: y, h1, h2 => by
    simp only [sh] at h1 h2 ⊢
    split
    · rename_i e
      rw [if_pos e] at h1 h2
      simp only [List.length_cons] at h1 h2
      simpa using sh_end x y (by omega) (by omega)
    · rename_i e
      simp [e]
/-- where two texts have been the same so far -/
theorem sh_more {a b : List UInt8} {k : Nat} (h : ∀ j, j < k → a[j]? = b[j]?) (ha : k ≤ a.length) (hb : k ≤ b.length) : k ≤ sh a b := by
  by_cases hc : k ≤ sh a b
  · exact hc
  · exact absurd (h _ (by omega)) (sh_end a b (by omega) (by omega))
theorem sh_at {a b : List UInt8} {k : Nat} (h : ∀ j, j < k → a[j]? = b[j]?) (ha : k ≤ a.length) (hb : k ≤ b.length) (he : k = a.length ∨ k = b.length ∨ a[k]? ≠ b[k]?) : sh a b = k := by
  have h1 := sh_more h ha hb
  have h2 := sh_le a b
  rcases he with e | e | e
  · omega
  · omega
  · by_cases hc : sh a b = k
    · exact hc
    · exact absurd (sh_get a b k (by omega)) e
def mk (d : Bool) : UInt8 := if d then 1 else 0
/-- an entry's bytes, but for the n first ones of its key -/
def encE (n : Nat) (x : Ent) : List UInt8 := Nm.short n ++ (Bt.sized (x.key.drop n) ++ (Nm.short x.seq ++ (mk x.del :: Bt.sized x.val)))
def keyAt (l : List Ent) (i : Nat) : List UInt8 := (l[i]?.map Ent.key).getD []
/-- how many bytes the key of the entry i shares with the one ahead of it -/
def shr (l : List Ent) (i : Nat) : Nat := if i % 4 = 0 then 0 else sh (keyAt l (i - 1)) (keyAt l i)
def piece (l : List Ent) (i : Nat) : List UInt8 := match l[i]? with
  | none => []
  | some x => encE (shr l i) x
/-- the bytes of k entries -/
def E (l : List Ent) (k : Nat) : List UInt8 := ((List.range k).map (piece l)).flatten
/-- the places of the whole keys among k entries -/
def P (l : List Ent) (k : Nat) : List UInt8 := ((List.range k).map fun i => if i % 4 = 0 then Nm.long (E l i).length else []).flatten
theorem E_zero (l : List Ent) : E l 0 = [] := rfl
theorem P_zero (l : List Ent) : P l 0 = [] := rfl
theorem E_succ (l : List Ent) (k : Nat) : E l (k + 1) = E l k ++ piece l k := by unfold E; rw [List.range_succ, List.map_append, List.flatten_append]; simp
theorem P_yes {l : List Ent} {k : Nat} (h : k % 4 = 0) : P l (k + 1) = P l k ++ Nm.long (E l k).length := by unfold P; rw [List.range_succ, List.map_append, List.flatten_append]; simp [h]
theorem P_no {l : List Ent} {k : Nat} (h : k % 4 ≠ 0) : P l (k + 1) = P l k := by unfold P; rw [List.range_succ, List.map_append, List.flatten_append]; simp [h]
theorem piece_is {l : List Ent} {k : Nat} {x : Ent} (h : l[k]? = some x) : piece l k = encE (shr l k) x := by unfold piece; rw [h]
theorem keyAt_some {l : List Ent} {k : Nat} {x : Ent} (h : l[k]? = some x) : keyAt l k = x.key := by unfold keyAt; rw [h]; rfl
theorem shr_le {l : List Ent} {k : Nat} {x : Ent} (h : l[k]? = some x) : shr l k ≤ x.key.length := by
  unfold shr
  split
  · omega
  · rw [keyAt_some h]; exact (sh_le _ _).2
/-- the key that is ahead of the entry k -/
def pre (l : List Ent) (k : Nat) : List UInt8 := if k = 0 then [] else keyAt l (k - 1)
theorem pre_succ {l : List Ent} {k : Nat} {x : Ent} (h : l[k]? = some x) : pre l (k + 1) = x.key := by unfold pre; rw [if_neg (by omega), Nat.add_sub_cancel, keyAt_some h]
/-- what is shared, told by the key ahead -/
theorem shr_pre {l : List Ent} {k : Nat} {x : Ent} (h : l[k]? = some x) : shr l k = sh (if k % 4 = 0 then [] else pre l k) x.key := by
  unfold shr
  split
  · rename_i e; rw [sh_nil]
  · rename_i e
    rw [keyAt_some h]
    unfold pre
    rw [if_neg (by omega)]
theorem shr_take {l : List Ent} {k : Nat} {x : Ent} (h : l[k]? = some x) : shr l k ≤ (pre l k).length ∧ (pre l k).take (shr l k) = x.key.take (shr l k) := by
  rw [shr_pre h]
  split
  · rw [sh_nil]; simp
  · exact ⟨(sh_le _ _).1, sh_take _ _⟩
/-- is a row one of which a block is made? -/
def isB (l : List Ent) : Bool := decide (1 ≤ l.length) && decide (l.length ≤ 32) && l.all may && Mg.row l
theorem isB_iff {l : List Ent} : isB l = true ↔ 1 ≤ l.length ∧ l.length ≤ 32 ∧ (∀ x ∈ l, may x = true) ∧ Mg.row l = true := by
  unfold isB; simp [and_assoc]
def enc (l : List Ent) : List UInt8 := E l l.length ++ (P l l.length ++ Nm.long l.length)
def encS (l : List Ent) : List UInt8 := if isB l then enc l else []
def encC (l : List Ent) : Int := if isB l then 0 else 2
theorem enc_yes {l : List Ent} (h : isB l = true) : encS l = enc l ∧ encC l = 0 := by unfold encS encC; rw [h]; exact ⟨rfl, rfl⟩
theorem enc_no {l : List Ent} (h : isB l = false) : encS l = [] ∧ encC l = 2 := by unfold encS encC; rw [h]; exact ⟨rfl, rfl⟩
/-- at most so many bytes of a text, and what is left; none at all where there aren't so many -/
def pc (n : Nat) (R : List UInt8) : List UInt8 × List UInt8 := if n ≤ 100 ∧ n ≤ R.length then (R.take n, R.drop n) else ([], [])
def tx (R : List UInt8) : List UInt8 × List UInt8 := pc (Nm.takeN R) (Nm.takeR R)
/-- an entry that is read behind a key, and what is left -/
def rdE (A R : List UInt8) : Ent × List UInt8 :=
  let t := tx (Nm.takeR R)
  let m := pc 1 (Nm.takeR t.2)
  let v := tx m.2
  (⟨A.take (min (Nm.takeN R) A.length) ++ t.1, Nm.takeN t.2, decide (m.1 = [1]), v.1⟩, v.2)
def rd : Nat → List UInt8 → List UInt8 → List Ent
  | 0, _, _ => []
  | c + 1, A, R => (rdE A R).1 :: rd c (rdE A R).1.key (rdE A R).2
def count (s : List UInt8) : Nat := if s.length < 8 then 0 else if Nm.unl (s.drop (s.length - 8)) ≤ 32 then Nm.unl (s.drop (s.length - 8)) else 0
def read (s : List UInt8) : List Ent := rd (count s) [] s
def dec (s : List UInt8) : Option (List Ent) := if isB (read s) = true ∧ enc (read s) = s then some (read s) else none
theorem takeN_short {n : Nat} (h : n < 18446744073709551616) (s : List UInt8) : Nm.takeN (Nm.short n ++ s) = n ∧ Nm.takeR (Nm.short n ++ s) = s := by
  unfold Nm.takeN Nm.takeR; rw [Nm.take_short n s h]; exact ⟨rfl, rfl⟩
theorem tx_sized {t : List UInt8} (h : t.length ≤ 100) (r : List UInt8) : tx (Bt.sized t ++ r) = (t, r) := by
  unfold tx Bt.sized
  rw [List.append_assoc, (takeN_short (by omega) _).1, (takeN_short (by omega) _).2]
  unfold pc
  rw [if_pos ⟨h, by simp⟩]
  simp
theorem rdE_enc {A T : List UInt8} {n : Nat} {x : Ent} (hx : may x = true) (h1 : n ≤ A.length) (h2 : n ≤ x.key.length) (h3 : A.take n = x.key.take n) : rdE A (encE n x ++ T) = (x, T) := by
  obtain ⟨k1, k2, k3, k4, k5, k6⟩ := may_iff.1 hx
  have hk : (x.key.drop n).length ≤ 100 := by rw [List.length_drop]; omega
  unfold rdE encE
  simp only [List.append_assoc, List.cons_append]
  rw [(takeN_short (by omega) _).1, (takeN_short (by omega) _).2, tx_sized hk]
  simp only
  rw [(takeN_short (by omega) _).1, (takeN_short (by omega) _).2]
  have hp : pc 1 (mk x.del :: (Bt.sized x.val ++ T)) = ([mk x.del], Bt.sized x.val ++ T) := by unfold pc; rw [if_pos ⟨by omega, by simp⟩]; simp
  rw [hp]
  simp only
  rw [tx_sized k3]
  simp only
  rw [Nat.min_eq_left h1, h3, List.take_append_drop]
  obtain ⟨k, s, d, v⟩ := x
  cases d <;> simp [mk]
/-- the bytes of the entries from k on -/
def F (l : List Ent) : Nat → Nat → List UInt8
  | _, 0 => []
  | k, c + 1 => piece l k ++ F l (k + 1) c
theorem F_app (l : List Ent) : ∀ (c k : Nat), E l k ++ F l k c = E l (k + c)
  | 0, k => by simp [F]
  | c + 1, k => by rw [F, ← List.append_assoc, ← E_succ, F_app l c (k + 1), show k + 1 + c = k + (c + 1) by omega]
theorem F_all (l : List Ent) (c : Nat) : F l 0 c = E l c := by have := F_app l c 0; rw [E_zero, List.nil_append, Nat.zero_add] at this; exact this
theorem rd_enc {l : List Ent} (hl : ∀ x ∈ l, may x = true) (T : List UInt8) : ∀ (c k : Nat), k + c = l.length → rd c (pre l k) (F l k c ++ T) = l.drop k
  | 0, k, h => by rw [rd, List.drop_of_length_le (by omega)]
  | c + 1, k, h => by
    have hk : k < l.length := by omega
    have hx : l[k]? = some l[k] := List.getElem?_eq_getElem hk
    have hm : l[k] ∈ l := List.getElem_mem hk
    rw [List.drop_eq_getElem_cons hk]
    generalize l[k] = x at hx hm
    obtain ⟨s1, s2⟩ := shr_take hx
    rw [rd, F, piece_is hx, List.append_assoc, rdE_enc (hl x hm) s1 (shr_le hx) s2]
    simp only
    rw [← pre_succ hx, rd_enc hl T c (k + 1) (by omega)]
theorem count_enc {l : List Ent} (h : l.length ≤ 32) : count (enc l) = l.length := by
  have e8 := Nm.long_len l.length
  have hd : (enc l).drop ((enc l).length - 8) = Nm.long l.length := by
    unfold enc
    rw [← List.append_assoc]
    have : (E l l.length ++ P l l.length ++ Nm.long l.length).length - 8 = (E l l.length ++ P l l.length).length := by rw [List.length_append (as := E l l.length ++ P l l.length), e8]; omega
    rw [this, List.drop_left]
  unfold count
  rw [hd, Nm.unl_long _ (by omega), if_neg (by unfold enc; simp only [List.length_append]; omega), if_pos h]
theorem read_enc {l : List Ent} (h : isB l = true) : read (enc l) = l := by
  obtain ⟨h1, h2, h3, h4⟩ := isB_iff.1 h
  unfold read
  rw [count_enc h2]
  have := rd_enc h3 (P l l.length ++ Nm.long l.length) l.length 0 (by omega)
  rw [F_all] at this
  unfold enc
  simpa [pre] using this
theorem dec_enc {l : List Ent} (h : isB l = true) : dec (enc l) = some l := by
  unfold dec
  rw [read_enc h, if_pos ⟨h, rfl⟩]
theorem dec_back {s : List UInt8} {l : List Ent} (h : dec s = some l) : isB l = true ∧ enc l = s := by
  unfold dec at h
  split at h
  · rename_i hc
    injection h with h
    rw [← h]; exact hc
  · cases h
theorem dec_read {s : List UInt8} {l : List Ent} (h : dec s = some l) : read s = l := by
  unfold dec at h
  split at h
  · injection h
  · cases h
/-- whatever was read: it is told just if it has these bytes -/
theorem dec_none {s : List UInt8} {L : List Ent} (h : dec s = none) : ¬ (isB L = true ∧ enc L = s) := fun ⟨h1, h2⟩ => by
  rw [← h2, dec_enc h1] at h; cases h
theorem mem_rd : ∀ (c : Nat) (A R : List UInt8) (x : Ent), x ∈ rd c A R → x.key.length ≤ A.length + 100 * c ∧ x.val.length ≤ 100
  | 0, A, R, x, h => by simp [rd] at h
  | c + 1, A, R, x, h => by
    have hpc : ∀ n Q, (pc n Q).1.length ≤ 100 := fun n Q => by
      unfold pc
      split
      · rename_i h; simp; omega
      · simp
    have hk : (rdE A R).1.key.length ≤ A.length + 100 := by
      have := hpc (Nm.takeN (Nm.takeR R)) (Nm.takeR (Nm.takeR R))
      simp only [rdE, List.length_append, List.length_take]
      unfold tx
      omega
    rw [rd] at h
    rcases List.mem_cons.1 h with rfl | h
    · exact ⟨by omega, by simp only [rdE]; exact hpc _ _⟩
    · have := mem_rd c _ _ x h
      exact ⟨by omega, this.2⟩
theorem rd_len : ∀ (c : Nat) (A R : List UInt8), (rd c A R).length = c
  | 0, _, _ => rfl
  | c + 1, A, R => by simp [rd, rd_len c]
theorem count_le (s : List UInt8) : count s ≤ 32 := by
  unfold count
  split
  · omega
  · split <;> omega
theorem encE_len {n : Nat} {x : Ent} (hx : may x = true) (hn : n ≤ x.key.length) : (encE n x).length + n ≤ x.key.length + x.val.length + 10 ∧ x.key.length + x.val.length ≤ (encE n x).length + n := by
  obtain ⟨k1, k2, k3, k4, k5, k6⟩ := may_iff.1 hx
  have z1 : (Nm.short n).length = 1 := by rw [Nm.short_len _ (by omega), Nm.sz_small _ (by omega)]
  have z2 : (Nm.short (x.key.length - n)).length = 1 := by rw [Nm.short_len _ (by omega), Nm.sz_small _ (by omega)]
  have z3 : (Nm.short x.val.length).length = 1 := by rw [Nm.short_len _ (by omega), Nm.sz_small _ (by omega)]
  have z4 : (Nm.short x.seq).length ≤ 6 := by
    rw [Nm.short_len _ (by omega)]
    by_cases h1 : 128 ≤ x.seq
    · rw [Nm.sz_big _ h1]
      by_cases h2 : 128 ≤ x.seq / 128
      · rw [Nm.sz_big _ h2]
        by_cases h3 : 128 ≤ x.seq / 128 / 128
        · rw [Nm.sz_big _ h3]
          by_cases h4 : 128 ≤ x.seq / 128 / 128 / 128
          · rw [Nm.sz_big _ h4]
            by_cases h5 : 128 ≤ x.seq / 128 / 128 / 128 / 128
            · rw [Nm.sz_big _ h5, Nm.sz_small _ (by omega)]; omega
            · rw [Nm.sz_small _ (by omega)]; omega
          · rw [Nm.sz_small _ (by omega)]; omega
        · rw [Nm.sz_small _ (by omega)]; omega
      · rw [Nm.sz_small _ (by omega)]; omega
    · rw [Nm.sz_small _ (by omega)]; omega
  unfold encE Bt.sized
  simp only [List.length_append, List.length_cons, List.length_drop, z1, z2, z3]
  omega
theorem piece_len {l : List Ent} (h : ∀ x ∈ l, may x = true) (k : Nat) : (piece l k).length ≤ 210 := by
  unfold piece
  split
  · simp
  · rename_i x hx
    have hm := h x (List.mem_of_getElem? hx)
    have := (encE_len hm (shr_le hx)).1
    obtain ⟨k1, k2, k3, k4, k5, k6⟩ := may_iff.1 hm
    omega
theorem E_len {l : List Ent} (h : ∀ x ∈ l, may x = true) : ∀ (k : Nat), (E l k).length ≤ 210 * k
  | 0 => by simp [E]
  | k + 1 => by
    have := E_len h k
    have := piece_len h k
    rw [E_succ, List.length_append]; omega
theorem P_len (l : List Ent) : ∀ (k : Nat), (P l k).length = 8 * ((k + 3) / 4)
  | 0 => by simp [P]
  | k + 1 => by
    have := P_len l k
    by_cases h : k % 4 = 0
    · rw [P_yes h, List.length_append, Nm.long_len]; omega
    · rw [P_no h]; omega
theorem enc_len {l : List Ent} (h : isB l = true) : (enc l).length ≤ 7000 := by
  obtain ⟨h1, h2, h3, h4⟩ := isB_iff.1 h
  have e1 := E_len h3 l.length
  have e2 := P_len l l.length
  unfold enc
  simp only [List.length_append, Nm.long_len]
  omega
end Bk
end Go.Proofs.Ytpnabojfliphpaa
