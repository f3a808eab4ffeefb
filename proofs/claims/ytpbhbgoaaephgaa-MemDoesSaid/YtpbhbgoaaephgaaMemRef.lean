/-
  What the document's own table of layer 7 (package screeref07) tells, whatever it holds: may an entry be, how many are ahead, what is got, how many bytes.
-/
import Derived.Test.YtpbhbgoaaephgaaMemAwake
import Derived.Test.YtpbhbgoaaephgaaMemLawMath
namespace Go.Proofs.Ytpbhbgoaaephgaa
open Go.ChangeShapes Go.WideShapes Go.ChangeAt Go.RowKit
set_option linter.unusedVariables false
set_option maxRecDepth 100000
set_option maxHeartbeats 1000000

theorem rquiet_l {P : Program} {f : FuncId} {args : Array Value} {w : World} {n : Nat} {v : Value} (h : Calls P f args (w.drewN n) fun e w' => e = .returned v ∧ w.drewN n = w') :
    Calls P f args (w.drewN n) fun e w'' => e = .returned v ∧ ∃ m, w'' = w.drewN m := h.mono fun _ _ k => ⟨k.1, n, k.2.symm⟩
/-- the document's table in memory -/
structure IsRt (w : World) (r : Nat) (G : Nat → Prop) (T : List Mm.Tv) (AL : Option Addr) (cL : Nat) (AH : Option Addr) (cH : Nat) : Prop where
  blk : w.heap[r]? = some (.cells #[.slice AL T.length cL, .slice AH T.length cH] 48)
  els : Els w AL (Mm.ents T)
  hls : Hls w AH (Mm.hts T)
  capL : T.length ≤ cL
  capH : T.length ≤ cH
  mostL : cL ≤ maxLen
  mostH : cH ≤ maxLen
  nilL : AL = none → cL = 0
  nilH : AH = none → cH = 0
  gr : G r
  gL : ∀ b o, AL = some ⟨b, o, none⟩ → G b ∧ b < w.heap.size ∧ b ≠ r
  gH : ∀ b o, AH = some ⟨b, o, none⟩ → G b ∧ b < w.heap.size ∧ b ≠ r
  shape : (AL = none ∧ AH = none ∧ T = []) ∨ ∃ b o b' o', AL = some ⟨b, o, none⟩ ∧ AH = some ⟨b', o', none⟩
  good : Mm.Good T
  few : T.length ≤ 1000
def Rt (w : World) (r : Nat) (G : Nat → Prop) (T : List Mm.Tv) : Prop := ∃ AL cL AH cH, IsRt w r G T AL cL AH cH
theorem Els.at' {w w' : World} {A : Option Addr} {l : List Mm.Ent} (h : Els w A l) (hs : w.heap.size ≤ w'.heap.size) (k : ∀ b o, A = some ⟨b, o, none⟩ → w'.heap[b]? = w.heap[b]?) : Els w' A l := fun j x hx => by
  obtain ⟨b, o, e, hb, h0, h1, h2, h3⟩ := h j x hx
  have hk := k b o e
  have hc : ∀ i, w'.cell? ⟨b, i, none⟩ = w.cell? ⟨b, i, none⟩ := fun i => by unfold World.cell?; rw [hk]
  exact ⟨b, o, e, Nat.lt_of_lt_of_le hb hs, by rw [hc]; exact h0, by rw [hc]; exact h1, by rw [hc]; exact h2, by rw [hc]; exact h3⟩
theorem Hls.at' {w w' : World} {A : Option Addr} {l : List Nat} (h : Hls w A l) (hs : w.heap.size ≤ w'.heap.size) (k : ∀ b o, A = some ⟨b, o, none⟩ → w'.heap[b]? = w.heap[b]?) : Hls w' A l := fun j x hx => by
  obtain ⟨b, o, e, hb, h0⟩ := h j x hx
  have hk := k b o e
  have hc : ∀ i, w'.cell? ⟨b, i, none⟩ = w.cell? ⟨b, i, none⟩ := fun i => by unfold World.cell?; rw [hk]
  exact ⟨b, o, e, Nat.lt_of_lt_of_le hb hs, by rw [hc]; exact h0⟩
section
variable {w w' : World} {r : Nat} {G F : Nat → Prop} {T : List Mm.Tv} {AL AH : Option Addr} {cL cH : Nat}
theorem IsRt.ex (h : IsRt w r G T AL cL AH cH) (k : Ex F w w') (hd : ∀ b, G b → ¬ F b) : IsRt w' r G T AL cL AH cH :=
  { h with
    blk := (k.block r (mheap_lt h.blk) (hd r h.gr)).trans h.blk
    els := h.els.at' k.size fun b o e => k.block b (h.gL b o e).2.1 (hd b (h.gL b o e).1)
    hls := h.hls.at' k.size fun b o e => k.block b (h.gH b o e).2.1 (hd b (h.gH b o e).1)
    gL := fun b o e => ⟨(h.gL b o e).1, Nat.lt_of_lt_of_le (h.gL b o e).2.1 k.size, (h.gL b o e).2.2⟩
    gH := fun b o e => ⟨(h.gH b o e).1, Nat.lt_of_lt_of_le (h.gH b o e).2.1 k.size, (h.gH b o e).2.2⟩ }
theorem IsRt.kept (h : IsRt w r G T AL cL AH cH) (k : Kept w w') : IsRt w' r G T AL cL AH cH := h.ex (F := fun _ => False) (ex_kept k) (fun _ _ q => q)
theorem Rt.ex (h : Rt w r G T) (k : Ex F w w') (hd : ∀ b, G b → ¬ F b) : Rt w' r G T := by
  obtain ⟨AL, cL, AH, cH, h⟩ := h; exact ⟨AL, cL, AH, cH, h.ex k hd⟩
theorem Rt.kept (h : Rt w r G T) (k : Kept w w') : Rt w' r G T := h.ex (F := fun _ => False) (ex_kept k) (fun _ _ q => q)
theorem Rt.lt (h : Rt w r G T) : r < w.heap.size := by obtain ⟨AL, cL, AH, cH, h⟩ := h; exact mheap_lt h.blk
theorem Rt.good (h : Rt w r G T) : Mm.Good T := by obtain ⟨AL, cL, AH, cH, h⟩ := h; exact h.good
theorem rplace_any (h : Rt w r G T) (K : List UInt8) (S : Nat) :
    Calls Try.prog 62 #[.pointer (some ⟨r, 0, none⟩), .string (bs K), .int .u64 (S : Nat)] w fun e w' => e = .returned (.int .i64 ((Mm.A T K S).length : Nat)) ∧ Kept w w' := by
  obtain ⟨AL, cL, AH, cH, h⟩ := h
  have hcnt := h.good.cnt K S
  have hf := h.few
  have hel := Mm.ents_len T
  have HI := Lib.hid h
  rw [← hcnt]
  have HELS := Lib.hid (fun W (k : Kept w W) => (h.kept k).els)
  have HR := Lib.hid (fun W (k : Kept w W) => mcell (h.kept k).blk 0 rfl)
  clear h hcnt
  generalize Mm.ents T = E at *
  generalize hTL : T.length = TL at *
  have HEL := Lib.hid hel
  have HTA := Lib.hid (show (E.filter (fun e => Mm.Ent.ah e K S)).length = ((E.take TL).filter (fun e => Mm.Ent.ah e K S)).length by rw [List.take_of_length_le (by omega)])
  have HST := Lib.hid (fun i y (hy : E[i]? = some y) => Mm.cnt_step (p := fun e => Mm.Ent.ah e K S) hy)
  have HLE := Lib.hid (fun i => Mm.cnt_le (p := fun e => Mm.Ent.ah e K S) (E := E) i)
  generalize hFF : (fun i => ((E.take i).filter (fun e => Mm.Ent.ah e K S)).length) = ff
  have HFF : Hid (∀ i, ((E.take i).filter (fun e => Mm.Ent.ah e K S)).length = ff i) := Lib.hid (fun i => by rw [← hFF])
  rw [HTA.out, HFF.out]
  clear hFF HTA hel
  have HST2 : Hid (∀ i y, E[i]? = some y → ff (i + 1) = ff i + (if Mm.Ent.ah y K S then 1 else 0)) := Lib.hid (fun i y hy => by rw [← HFF.out, ← HFF.out]; exact HST.out i y hy)
  have HLE2 : Hid (∀ i, ff i ≤ TL) := Lib.hid (fun i => by rw [← HFF.out, ← HEL.out]; exact HLE.out i)
  have H0 : Hid (ff 0 = 0) := Lib.hid (by rw [← HFF.out]; rfl)
  clear HST HLE HFF
  go_enter Try.func62, Try.ntmps62
  go_wp2_with fail
  go_loopw [7, 8] (fun n t wi => ∃ i : Nat, i ≤ TL ∧ t = .int .i64 i ∧ n = .int .i64 (ff i : Nat) ∧ Kept w wi) (fun _ t _ => TL - (intOf t).toNat)
  case atStart => exact ⟨0, Nat.zero_le _, rfl, by rw [H0.out]; rfl, Kept.refl _⟩
  case round =>
    obtain ⟨i, hi, rfl, rfl, ki⟩ := hrel
    have r0 := HR.out wr ki
    by_cases hit : i < TL
    · obtain ⟨y, hy⟩ : ∃ y, E[i]? = some y := ⟨_, List.getElem?_eq_getElem (by rw [HEL.out]; exact hit)⟩
      obtain ⟨b, o, rfl, hb, c0, c1, c2, c3⟩ := (HELS.out wr ki) i y hy
      have hah := rahead_any y.key y.seq K S
      have hst := HST2.out i y hy
      have hle := HLE2.out i
      rw [show Mm.ahd y.key y.seq K S = Mm.Ent.ah y K S from rfl] at hah
      clear hy
      cases hv : Mm.Ent.ah y K S with
      | true =>
        rw [hv] at hah hst
        simp only [if_true] at hst
        have HS := Lib.hid hst
        have HAH := Lib.hid hah
        clear hst hv hah
        go_wp2_with fail
        go_quiet ((go_at_call 74; exact rquiet_l (HAH.out _)))
        go_wp2_with fail
        go_roundw
        case rel => exact ⟨i + 1, by omega, by go_num, by rw [HS.out]; go_num, kept_trans ki (kept_drewN _ _)⟩
        case measure => simp [intOf]; omega
      | false =>
        rw [hv] at hah hst
        simp only [Bool.false_eq_true, if_false, Nat.add_zero] at hst
        have HS := Lib.hid hst
        have HAH := Lib.hid hah
        clear hst hv hah
        go_wp2_with fail
        go_quiet ((go_at_call 74; exact rquiet_l (HAH.out _)))
        go_wp2_with fail
        go_roundw
        case rel => exact ⟨i + 1, by omega, by go_num, by rw [HS.out], kept_trans ki (kept_drewN _ _)⟩
        case measure => simp [intOf]; omega
    · have e : i = TL := by omega
      subst e
      go_wp2_with fail
      go_ret
      exact ⟨rfl, ki⟩
end
end Go.Proofs.Ytpbhbgoaaephgaa
