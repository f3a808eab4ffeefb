/-
  The plain mathematics of store's keys: escaping, its order, that no escaped key is a beginning of another one, and what Make, Read, First, Behind and Family answer. No program.
-/
import Derived.WalkKit
import Derived.Test.YtdmnmbomijnjeaaNumMath
namespace Go.Proofs.Ytdmnmbomijnjeaa
open Go.RowKit
namespace Ky
/-- a user's key may be -/
def may (l : List UInt8) : Bool := decide (1 ≤ l.length ∧ l.length ≤ 24)
/-- the bytes of a user's key, each 0 as 0 255 -/
def escB : List UInt8 → List UInt8
  | [] => []
  | c :: r => if c = 0 then 0 :: 255 :: escB r else c :: escB r
def esc (l : List UInt8) : List UInt8 := escB l ++ [0, 1]
theorem escB_append : ∀ (a b : List UInt8), escB (a ++ b) = escB a ++ escB b
  | [], b => rfl
  | c :: a, b => by
    rw [List.cons_append, escB, escB, escB_append a b]
    split <;> rfl
theorem escB_len : ∀ (l : List UInt8), l.length ≤ (escB l).length ∧ (escB l).length ≤ 2 * l.length
  | [] => by simp [escB]
  | c :: l => by
    have h := escB_len l
    rw [escB]
    split <;> simp <;> omega
theorem esc_len (l : List UInt8) : (esc l).length = (escB l).length + 2 := by simp [esc]
theorem esc_len_may (l : List UInt8) (h : may l = true) : 3 ≤ (esc l).length ∧ (esc l).length ≤ 50 := by
  have := escB_len l
  unfold may at h
  rw [decide_eq_true_iff] at h
  rw [esc_len]; omega
theorem escB_snoc0 (l : List UInt8) : escB (l ++ [0]) = escB l ++ [0, 255] := by rw [escB_append]; rfl
theorem escB_snoc (l : List UInt8) (c : UInt8) (h : c ≠ 0) : escB (l ++ [c]) = escB l ++ [c] := by
  rw [escB_append]; simp [escB, h]
/-- what was gone through is shorter than the escaped key that stands there -/
theorem esc_longer : ∀ (U u o t r : List UInt8), o = [] ∨ o = [0] → escB U ++ (o ++ t) = esc u ++ r → (escB U).length + o.length < (esc u).length
  | [], u, o, t, r, ho, _ => by
    rw [esc_len]
    rcases ho with rfl | rfl <;> simp [escB]
  | c :: U, [], o, t, r, _, h => by
    exfalso
    rw [escB] at h
    split at h
    · simp [esc, escB] at h
    · rename_i hc
      simp [esc, escB] at h
      exact hc h.1
  | c :: U, d :: u, o, t, r, ho, h => by
    unfold esc at h
    rw [escB, escB] at h
    rw [esc_len, escB, escB]
    by_cases hc : c = 0
    · by_cases hd : d = 0
      · rw [if_pos hc, if_pos hd] at h ⊢
        simp only [List.cons_append, List.cons.injEq, true_and] at h
        have := esc_longer U u o t r ho (by unfold esc; exact h)
        rw [esc_len] at this
        simp; omega
      · rw [if_pos hc, if_neg hd] at h
        simp at h
        exact absurd h.1.symm hd
    · by_cases hd : d = 0
      · rw [if_neg hc, if_pos hd] at h
        simp at h
        exact absurd h.1 hc
      · rw [if_neg hc, if_neg hd] at h ⊢
        simp only [List.cons_append, List.cons.injEq] at h
        have := esc_longer U u o t r ho (by unfold esc; exact h.2)
        rw [esc_len] at this
        simp; omega
/-- a byte 0 and one that is not 255 end the escaped key that stands there -/
theorem esc_ends : ∀ (U u : List UInt8) (c : UInt8) (t r : List UInt8), c ≠ 255 → escB U ++ 0 :: c :: t = esc u ++ r → U = u ∧ c = 1 ∧ t = r
  | [], [], c, t, r, _, h => by simpa [esc, escB] using h
  | [], d :: u, c, t, r, hc, h => by
    exfalso
    unfold esc at h
    rw [escB, escB] at h
    split at h
    · simp at h; exact hc h.1
    · rename_i hd
      simp at h; exact hd h.1.symm
  | d :: U, [], c, t, r, hc, h => by
    exfalso
    unfold esc at h
    rw [escB, escB] at h
    split at h
    · simp at h
    · rename_i hd
      simp at h; exact hd h.1
  | d :: U, e :: u, c, t, r, hc, h => by
    unfold esc at h
    rw [escB, escB] at h
    by_cases hd : d = 0
    · by_cases he : e = 0
      · rw [if_pos hd, if_pos he] at h
        simp only [List.cons_append, List.cons.injEq, true_and] at h
        obtain ⟨h1, h2, h3⟩ := esc_ends U u c t r hc (by unfold esc; exact h)
        exact ⟨by rw [hd, he, h1], h2, h3⟩
      · rw [if_pos hd, if_neg he] at h
        simp at h
        exact absurd h.1.symm he
    · by_cases he : e = 0
      · rw [if_neg hd, if_pos he] at h
        simp at h
        exact absurd h.1 hd
      · rw [if_neg hd, if_neg he] at h
        simp only [List.cons_append, List.cons.injEq] at h
        obtain ⟨h1, h2, h3⟩ := esc_ends U u c t r hc (by unfold esc; exact h.2)
        exact ⟨by rw [h.1, h1], h2, h3⟩
theorem esc_inj {a b x y : List UInt8} (h : esc a ++ x = esc b ++ y) : a = b ∧ x = y := by
  have h' : escB a ++ 0 :: 1 :: x = esc b ++ y := by rw [← h]; simp [esc]
  obtain ⟨h1, _, h3⟩ := esc_ends a b 1 x y (by decide) h'
  exact ⟨h1, h3⟩
theorem less_cons (a b : UInt8) (x y : List UInt8) : Op.bytesLess (a :: x) (b :: y) = (decide (a < b) || (a == b && Op.bytesLess x y)) := rfl
theorem less_same (a : UInt8) (x y : List UInt8) : Op.bytesLess (a :: x) (a :: y) = Op.bytesLess x y := by
  rw [less_cons]; simp
theorem less_other (a b : UInt8) (x y : List UInt8) (h : a ≠ b) : Op.bytesLess (a :: x) (b :: y) = decide (a < b) := by
  rw [less_cons]; simp [h]
theorem u8_pos {d : UInt8} (h : d ≠ 0) : (0 : UInt8) < d := by
  rw [UInt8.lt_iff_toNat_lt]
  have : d.toNat ≠ 0 := fun e => h (by rw [← UInt8.toNat_inj, e]; rfl)
  show 0 < d.toNat
  omega
/-- the order of escaped keys, with what follows -/
theorem esc_less : ∀ (a b x y : List UInt8), Op.bytesLess (esc a ++ x) (esc b ++ y) = if a = b then Op.bytesLess x y else Op.bytesLess a b
  | [], [], x, y => by simp [esc, escB, less_same]
  | [], d :: b, x, y => by
    unfold esc
    rw [escB, escB, if_neg (show ¬ ([] : List UInt8) = d :: b from by simp)]
    split
    · simp only [List.nil_append, List.cons_append]
      rw [less_same, less_other _ _ _ _ (by decide)]; rfl
    · rename_i hd
      simp only [List.nil_append, List.cons_append]
      rw [less_other _ _ _ _ (fun e => hd e.symm)]
      simp [u8_pos hd, Op.bytesLess]
  | c :: a, [], x, y => by
    unfold esc
    rw [escB, escB, if_neg (show ¬ c :: a = ([] : List UInt8) from by simp)]
    split
    · simp only [List.nil_append, List.cons_append]
      rw [less_same, less_other _ _ _ _ (by decide)]; rfl
    · rename_i hd
      simp only [List.nil_append, List.cons_append]
      rw [less_other _ _ _ _ hd]
      simp [Op.bytesLess]
  | c :: a, d :: b, x, y => by
    have ih := esc_less a b x y
    unfold esc at ih ⊢
    rw [escB, escB]
    by_cases e : c = d
    · subst e
      have e2 : (c :: a = c :: b) = (a = b) := by simp
      rw [less_same c a b]
      simp only [e2]
      split
      · simp only [List.cons_append]
        rw [less_same, less_same]; exact ih
      · simp only [List.cons_append]
        rw [less_same]; exact ih
    · rw [if_neg (show ¬ c :: a = d :: b from by simp [e]), less_other c d a b e]
      by_cases hc : c = 0
      · have hd : d ≠ 0 := fun h => e (by rw [hc, h])
        rw [if_pos hc, if_neg hd]
        simp only [List.cons_append]
        rw [hc] at e ⊢
        rw [less_other _ _ _ _ e]
      · rw [if_neg hc]
        by_cases hd : d = 0
        · rw [if_pos hd]
          simp only [List.cons_append]
          rw [hd, less_other _ _ _ _ hc]
        · rw [if_neg hd]
          simp only [List.cons_append]
          rw [less_other _ _ _ _ e]

/-- the order of escaped keys with any end below 255 -/
theorem end_less : ∀ (a b : List UInt8) (e f : UInt8) (x y : List UInt8), e < 255 → f < 255 →
    Op.bytesLess (escB a ++ 0 :: e :: x) (escB b ++ 0 :: f :: y) = if a = b then Op.bytesLess (e :: x) (f :: y) else Op.bytesLess a b
  | [], [], e, f, x, y, _, _ => by simp [escB, less_same]
  | [], d :: b, e, f, x, y, he, _ => by
    rw [escB, escB, if_neg (show ¬ ([] : List UInt8) = d :: b from by simp)]
    split
    · simp only [List.nil_append, List.cons_append]
      rw [less_same, less_other _ _ _ _ (fun h => by rw [h] at he; exact absurd he (by decide)), decide_eq_true he]; rfl
    · rename_i hd
      simp only [List.nil_append, List.cons_append]
      rw [less_other _ _ _ _ (fun e => hd e.symm)]
      simp [u8_pos hd, Op.bytesLess]
  | c :: a, [], e, f, x, y, _, hf => by
    rw [escB, escB, if_neg (show ¬ c :: a = ([] : List UInt8) from by simp)]
    split
    · simp only [List.nil_append, List.cons_append]
      have hn : ¬ (255 : UInt8) < f := by rw [UInt8.lt_iff_toNat_lt] at hf ⊢; omega
      rw [less_same, less_other _ _ _ _ (fun h => by rw [← h] at hf; exact absurd hf (by decide)), decide_eq_false hn]; rfl
    · rename_i hd
      simp only [List.nil_append, List.cons_append]
      rw [less_other _ _ _ _ hd]
      simp [Op.bytesLess]
  | c :: a, d :: b, e, f, x, y, he, hf => by
    have ih := end_less a b e f x y he hf
    rw [escB, escB]
    by_cases h : c = d
    · subst h
      have e2 : (c :: a = c :: b) = (a = b) := by simp
      rw [less_same c a b]
      simp only [e2]
      split
      · simp only [List.cons_append]
        rw [less_same, less_same]; exact ih
      · simp only [List.cons_append]
        rw [less_same]; exact ih
    · rw [if_neg (show ¬ c :: a = d :: b from by simp [h]), less_other c d a b h]
      by_cases hc : c = 0
      · have hd : d ≠ 0 := fun h' => h (by rw [hc, h'])
        rw [if_pos hc, if_neg hd]
        simp only [List.cons_append]
        rw [hc] at h ⊢
        rw [less_other _ _ _ _ h]
      · rw [if_neg hc]
        by_cases hd : d = 0
        · rw [if_pos hd]
          simp only [List.cons_append]
          rw [hd, less_other _ _ _ _ hc]
        · rw [if_neg hd]
          simp only [List.cons_append]
          rw [less_other _ _ _ _ h]
theorem less_nil (l : List UInt8) : Op.bytesLess l [] = false := by cases l <;> rfl
/-- the parts -/
def okF (cf : Int) : Bool := decide (1 ≤ cf ∧ cf ≤ 4)
def escS (u : List UInt8) : List UInt8 := if may u then esc u else []
def escE (u : List UInt8) : Int := if may u then 0 else 20
def firstE (cf : Int) (u : List UInt8) : Int := if okF cf then (if may u then 0 else 20) else 1
/-- the byte of a family, and the next one -/
def cfb (cf : Int) : UInt8 := cf.toNat.toUInt8
def cfn (cf : Int) : UInt8 := (cf + 1).toNat.toUInt8
def fst (cf : Int) (u : List UInt8) : List UInt8 := cfb cf :: esc u
def beh (cf : Int) (u : List UInt8) : List UInt8 := cfb cf :: (escB u ++ [0, 2])
def firstS (cf : Int) (u : List UInt8) : List UInt8 := if okF cf && may u then fst cf u else []
def behS (cf : Int) (u : List UInt8) : List UInt8 := if okF cf && may u then beh cf u else []
def famA (cf : Int) : List UInt8 := if okF cf then [cfb cf] else []
def famZ (cf : Int) : List UInt8 := if okF cf then [cfn cf] else []
def famE (cf : Int) : Int := if okF cf then 0 else 1
def lastT (cf : Int) : Int := if cf = 1 then 0 else 1099511627776
def tailS (cf : Int) (t : Int) : List UInt8 := if cf = 1 then [] else Nm.fall t.toNat
def makeE (cf : Int) (u : List UInt8) (t : Int) : Int := if okF cf then (if may u then (if t ≤ lastT cf then 0 else 3) else 20) else 1
def mk (cf : Int) (u : List UInt8) (t : Int) : List UInt8 := fst cf u ++ tailS cf t
def makeS (cf : Int) (u : List UInt8) (t : Int) : List UInt8 := if okF cf && (may u && decide (t ≤ lastT cf)) then mk cf u t else []
/-- the parts that may be -/
def Ok (cf : Int) (u : List UInt8) (t : Int) : Prop := okF cf = true ∧ may u = true ∧ 0 ≤ t ∧ t ≤ lastT cf
theorem okF_bd {cf : Int} (h : okF cf = true) : 1 ≤ cf ∧ cf ≤ 4 := by unfold okF at h; simpa using h
theorem may_bd {u : List UInt8} (h : may u = true) : 1 ≤ u.length ∧ u.length ≤ 24 := by unfold may at h; simpa using h
theorem lastT_bd (cf : Int) : 0 ≤ lastT cf ∧ lastT cf ≤ 1099511627776 := by unfold lastT; split <;> omega
theorem Ok.bd {cf : Int} {u : List UInt8} {t : Int} (h : Ok cf u t) : 1 ≤ cf ∧ cf ≤ 4 ∧ 1 ≤ u.length ∧ u.length ≤ 24 ∧ 0 ≤ t ∧ t ≤ 1099511627776 := by
  have h1 := okF_bd h.1
  have h2 := may_bd h.2.1
  have h3 := lastT_bd cf
  have h4 := h.2.2.2
  exact ⟨h1.1, h1.2, h2.1, h2.2, h.2.2.1, by omega⟩
theorem makeE_ok {cf : Int} {u : List UInt8} {t : Int} (h : Ok cf u t) : makeE cf u t = 0 := by
  unfold makeE; rw [if_pos h.1, if_pos h.2.1, if_pos h.2.2.2]
theorem makeS_ok {cf : Int} {u : List UInt8} {t : Int} (h : Ok cf u t) : makeS cf u t = mk cf u t := by
  unfold makeS; rw [h.1, h.2.1, decide_eq_true h.2.2.2]; rfl
theorem makeE_no {cf : Int} {u : List UInt8} {t : Int} (ht : 0 ≤ t) (h : ¬ Ok cf u t) : makeE cf u t ≠ 0 := by
  unfold makeE
  split
  · split
    · split
      · exact absurd ⟨‹_›, ‹_›, ht, ‹_›⟩ h
      · decide
    · decide
  · decide
theorem makeS_no {cf : Int} {u : List UInt8} {t : Int} (ht : 0 ≤ t) (h : ¬ Ok cf u t) : makeS cf u t = [] := by
  unfold makeS
  rw [if_neg]
  intro hh
  simp only [Bool.and_eq_true, decide_eq_true_eq] at hh
  exact h ⟨hh.1, hh.2.1, ht, hh.2.2⟩
theorem cf_byte {a b : Int} (ha : okF a = true) (hb : okF b = true) : (cfb a = cfb b) ↔ a = b := by
  unfold cfb
  have h1 := okF_bd ha
  have h2 := okF_bd hb
  rw [← UInt8.toNat_inj, Nm.u8_of _ (by omega), Nm.u8_of _ (by omega)]
  omega
theorem cfb_toNat {c : Int} (h : okF c = true) : ((cfb c).toNat : Int) = c := by
  have h1 := okF_bd h
  unfold cfb
  rw [Nm.u8_of _ (by omega)]; omega
theorem cfn_toNat {c : Int} (h : okF c = true) : ((cfn c).toNat : Int) = c + 1 := by
  have h1 := okF_bd h
  unfold cfn
  rw [Nm.u8_of _ (by omega)]; omega
theorem tail_len (cf t : Int) : (tailS cf t).length = if cf = 1 then 0 else 8 := by
  unfold tailS; split
  · rfl
  · exact Nm.long_len _
theorem fall_inj {a b : Nat} (ha : a < 18446744073709551616) (hb : b < 18446744073709551616) (h : Nm.fall a = Nm.fall b) : a = b := by
  unfold Nm.fall at h
  have := congrArg Nm.unl h
  rw [Nm.unl_long _ (by unfold Nm.turn; omega), Nm.unl_long _ (by unfold Nm.turn; omega)] at this
  unfold Nm.turn at this
  omega
def fold (a : Nat) (l : List UInt8) : Nat := l.foldl (fun a c => a * 256 + c.toNat) a
theorem fold_div : ∀ (l : List UInt8) (a : Nat), fold a l / 256 ^ l.length = a
  | [], a => by simp [fold]
  | c :: l, a => by
    have h := fold_div l (a * 256 + c.toNat)
    have hc := c.toNat_lt
    show fold (a * 256 + c.toNat) l / 256 ^ (l.length + 1) = a
    rw [Nat.pow_succ, ← Nat.div_div_eq_div_mul, h]
    omega
theorem beB_fold : ∀ (l : List UInt8) (a : Nat), Nm.beB l.length (fold a l) = l
  | [], a => rfl
  | c :: l, a => by
    have h := beB_fold l (a * 256 + c.toNat)
    have hd := fold_div l (a * 256 + c.toNat)
    show (fold (a * 256 + c.toNat) l / 256 ^ l.length).toUInt8 :: Nm.beB l.length (fold (a * 256 + c.toNat) l) = c :: l
    rw [h, hd]
    have hc := c.toNat_lt
    have e : (a * 256 + c.toNat).toUInt8 = c := by
      rw [← UInt8.toNat_inj, Nm.u8_mod]; omega
    rw [e]
theorem long_num (l : List UInt8) (h : l.length = 8) : Nm.long (Nm.num l) = l := by
  have := beB_fold l 0
  rw [h] at this
  exact this
theorem fall_unf (l : List UInt8) (h : l.length = 8) : Nm.fall (Nm.unf l) = l := by
  unfold Nm.fall Nm.unf
  rw [if_pos h]
  have hlt := Nm.num_lt l
  rw [h] at hlt
  have e : Nm.turn (Nm.turn (Nm.num l)) = Nm.num l := by unfold Nm.turn; omega
  rw [e, long_num l h]
theorem unf_fall (n : Nat) (h : n < 18446744073709551616) : Nm.unf (Nm.fall n) = n := by
  have h1 := Nm.unl_long (Nm.turn n) (by unfold Nm.turn; omega)
  unfold Nm.unl at h1
  rw [if_pos (Nm.long_len _)] at h1
  unfold Nm.unf Nm.fall
  rw [if_pos (Nm.long_len _), h1]
  unfold Nm.turn; omega
theorem unf_le (l : List UInt8) : Nm.unf l ≤ 18446744073709551615 := by
  unfold Nm.unf Nm.turn; split <;> omega
theorem tail_inj {cf a b : Int} (ha : 0 ≤ a ∧ a ≤ lastT cf) (hb : 0 ≤ b ∧ b ≤ lastT cf) (h : tailS cf a = tailS cf b) : a = b := by
  unfold tailS at h
  unfold lastT at ha hb
  split at h
  · rename_i hc
    rw [if_pos hc] at ha hb
    omega
  · rename_i hc
    rw [if_neg hc] at ha hb
    have := fall_inj (by omega) (by omega) h
    omega
/-- no store's key is a beginning of another one -/
theorem mk_begin {c d : Int} {u v : List UInt8} {s t : Int} {r : List UInt8} (h : Ok c u s) (k : Ok d v t) (e : mk d v t = mk c u s ++ r) : c = d ∧ u = v ∧ s = t := by
  unfold mk fst at e
  simp only [List.cons_append, List.cons.injEq, List.append_assoc] at e
  have hc := (cf_byte k.1 h.1).1 e.1
  subst hc
  obtain ⟨h1, h2⟩ := esc_inj e.2
  refine ⟨rfl, h1.symm, ?_⟩
  have hl := congrArg List.length h2
  rw [List.length_append, tail_len, tail_len] at hl
  have hr : r = [] := List.eq_nil_of_length_eq_zero (by omega)
  rw [hr, List.append_nil] at h2
  exact tail_inj h.2.2 k.2.2 h2.symm
theorem mk_inj {c d : Int} {u v : List UInt8} {s t : Int} (h : Ok c u s) (k : Ok d v t) (e : mk d v t = mk c u s) : c = d ∧ u = v ∧ s = t :=
  mk_begin (r := []) h k (by rw [e, List.append_nil])
theorem begin_of_take {a b : List UInt8} (h : a.take (min a.length b.length) = b.take (min a.length b.length)) : (∃ r, b = a ++ r) ∨ (∃ r, a = b ++ r) := by
  rcases Nat.le_total a.length b.length with h1 | h1
  · rw [Nat.min_eq_left h1, List.take_length] at h
    exact .inl ⟨b.drop a.length, by conv => rhs; lhs; rw [h]
                                    rw [List.take_append_drop]⟩
  · rw [Nat.min_eq_right h1, List.take_length] at h
    exact .inr ⟨a.drop b.length, by conv => rhs; lhs; rw [← h]
                                    rw [List.take_append_drop]⟩
theorem mk_apart {c d : Int} {u v : List UInt8} {s t : Int} (h : Ok c u s) (k : Ok d v t)
    (e : (mk c u s).take (min (mk c u s).length (mk d v t).length) = (mk d v t).take (min (mk c u s).length (mk d v t).length)) : c = d ∧ u = v ∧ s = t := by
  rcases begin_of_take e with ⟨r, hr⟩ | ⟨r, hr⟩
  · exact mk_begin h k hr
  · obtain ⟨h1, h2, h3⟩ := mk_begin k h hr
    exact ⟨h1.symm, h2.symm, h3.symm⟩
theorem esc_apart {a b : List UInt8} (e : (esc a).take (min (esc a).length (esc b).length) = (esc b).take (min (esc a).length (esc b).length)) : a = b := by
  rcases begin_of_take e with ⟨r, hr⟩ | ⟨r, hr⟩
  · exact (esc_inj (x := []) (y := r) (by rw [List.append_nil]; exact hr)).1.symm
  · exact (esc_inj (x := []) (y := r) (by rw [List.append_nil]; exact hr)).1
theorem cf_less {a b : Int} (ha : okF a = true) (hb : okF b = true) : (cfb a < cfb b) ↔ a < b := by
  unfold cfb
  have h1 := okF_bd ha
  have h2 := okF_bd hb
  rw [UInt8.lt_iff_toNat_lt, Nm.u8_of _ (by omega), Nm.u8_of _ (by omega)]
  omega
theorem tail_less {cf a b : Int} (ha : 0 ≤ a ∧ a ≤ lastT cf) (hb : 0 ≤ b ∧ b ≤ lastT cf) : Op.bytesLess (tailS cf a) (tailS cf b) = decide (b < a) := by
  unfold tailS
  unfold lastT at ha hb
  split
  · rename_i hc
    rw [if_pos hc] at ha hb
    rw [decide_eq_false (by omega)]; rfl
  · rename_i hc
    rw [if_neg hc] at ha hb
    unfold Nm.fall
    rw [Nm.long_less _ _ (by unfold Nm.turn; omega) (by unfold Nm.turn; omega), Bool.eq_iff_iff, decide_eq_true_iff, decide_eq_true_iff]
    unfold Nm.turn; omega
/-- the order of store's keys -/
def less (c : Int) (u : List UInt8) (s : Int) (d : Int) (v : List UInt8) (t : Int) : Bool :=
  decide (c < d) || (decide (c = d) && (Op.bytesLess u v || (decide (u = v) && decide (t < s))))
theorem bytesLess_irrefl : ∀ (l : List UInt8), Op.bytesLess l l = false
  | [] => rfl
  | c :: l => by rw [less_same]; exact bytesLess_irrefl l
theorem mk_less {c d : Int} {u v : List UInt8} {s t : Int} (h : Ok c u s) (k : Ok d v t) : Op.bytesLess (mk c u s) (mk d v t) = less c u s d v t := by
  unfold mk fst less
  simp only [List.cons_append]
  by_cases hc : c = d
  · subst hc
    rw [less_same, esc_less, tail_less h.2.2 k.2.2]
    by_cases hu : u = v
    · subst hu; simp [bytesLess_irrefl]
    · simp [hu]
  · rw [less_other _ _ _ _ (fun e => hc ((cf_byte h.1 k.1).1 e))]
    simp only [hc, decide_false, Bool.false_and, Bool.or_false]
    rw [Bool.eq_iff_iff, decide_eq_true_iff, decide_eq_true_iff]
    exact cf_less h.1 k.1
theorem esc_less' (a b : List UInt8) : Op.bytesLess (esc a) (esc b) = Op.bytesLess a b := by
  have := esc_less a b [] []
  rw [List.append_nil, List.append_nil] at this
  rw [this]
  split
  · rename_i h; subst h; rw [bytesLess_irrefl, bytesLess_irrefl]
  · rfl
/-- a store's key against where a user's key begins and ends, and where a family does -/
theorem mk_first {c d : Int} {u v : List UInt8} {t : Int} (hc : okF c = true) (k : okF d = true) :
    Op.bytesLess (mk d v t) (fst c u) = if d = c then (if v = u then false else Op.bytesLess v u) else decide (d < c) := by
  unfold mk fst
  simp only [List.cons_append]
  split
  · rename_i h
    subst h
    rw [less_same]
    have := esc_less v u (tailS d t) []
    rw [List.append_nil] at this
    rw [this, less_nil]
  · rename_i h
    rw [less_other _ _ _ _ (fun e => h ((cf_byte k hc).1 e)), Bool.eq_iff_iff, decide_eq_true_iff, decide_eq_true_iff]
    exact cf_less k hc
theorem mk_behind {c d : Int} {u v : List UInt8} {t : Int} (hc : okF c = true) (k : okF d = true) :
    Op.bytesLess (mk d v t) (beh c u) = if d = c then (if v = u then true else Op.bytesLess v u) else decide (d < c) := by
  unfold mk fst beh
  simp only [List.cons_append]
  split
  · rename_i h
    subst h
    rw [less_same]
    have := end_less v u 1 2 (tailS d t) [] (by decide) (by decide)
    have e1 : esc v ++ tailS d t = escB v ++ 0 :: 1 :: tailS d t := by unfold esc; simp
    rw [e1, this]
    split
    · rfl
    · rfl
  · rename_i h
    rw [less_other _ _ _ _ (fun e => h ((cf_byte k hc).1 e)), Bool.eq_iff_iff, decide_eq_true_iff, decide_eq_true_iff]
    exact cf_less k hc
theorem mk_famA {c d : Int} {v : List UInt8} {t : Int} (hc : okF c = true) (k : okF d = true) : Op.bytesLess (mk d v t) [cfb c] = decide (d < c) := by
  unfold mk fst
  simp only [List.cons_append]
  rw [less_cons, less_nil, Bool.and_false, Bool.or_false, Bool.eq_iff_iff, decide_eq_true_iff, decide_eq_true_iff]
  exact cf_less k hc
theorem mk_famZ {c d : Int} {v : List UInt8} {t : Int} (hc : okF c = true) (k : okF d = true) : Op.bytesLess (mk d v t) [cfn c] = decide (d < c + 1) := by
  have h1 := cfb_toNat k
  have h2 := cfn_toNat hc
  unfold mk fst
  simp only [List.cons_append]
  rw [less_cons, less_nil, Bool.and_false, Bool.or_false, Bool.eq_iff_iff, decide_eq_true_iff, decide_eq_true_iff, UInt8.lt_iff_toNat_lt]
  omega
end Ky
end Go.Proofs.Ytdmnmbomijnjeaa
