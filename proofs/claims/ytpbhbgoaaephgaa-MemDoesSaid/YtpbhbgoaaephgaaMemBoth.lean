/-
  A put of the document's own table of layer 7, whatever it is; a table of package mem beside the document's own.
-/
import Derived.Test.YtpbhbgoaaephgaaMemRefNil
import Derived.Test.YtpbhbgoaaephgaaMemRefThree
import Derived.Test.YtpbhbgoaaephgaaMemTwo
namespace Go.Proofs.Ytpbhbgoaaephgaa
open Go.ChangeShapes Go.WideShapes Go.ChangeAt Go.RowKit
set_option linter.unusedVariables false
set_option maxRecDepth 100000
set_option maxHeartbeats 1000000

section
variable {w w' W : World} {p r : Nat} {G G' F : Nat → Prop} {T U : List Mm.Tv} {AL AH : Option Addr} {cL cH : Nat}
theorem IsRt.mono (h : IsRt w r G T AL cL AH cH) (k : ∀ b, b < w.heap.size → G b → G' b) : IsRt w r G' T AL cL AH cH :=
  { h with
    gr := k r (mheap_lt h.blk) h.gr
    gL := fun b o e => ⟨k b (h.gL b o e).2.1 (h.gL b o e).1, (h.gL b o e).2⟩
    gH := fun b o e => ⟨k b (h.gH b o e).2.1 (h.gH b o e).1, (h.gH b o e).2⟩ }
theorem Rt.mono (h : Rt w r G T) (k : ∀ b, b < w.heap.size → G b → G' b) : Rt w r G' T := by
  obtain ⟨AL, cL, AH, cH, h⟩ := h; exact ⟨AL, cL, AH, cH, h.mono k⟩
theorem rput_any (h : Rt w r G T) (hfw : T.length < 1000) (e : Mm.Ent) (x : Int) (hk : e.key.length ≤ maxLen) (hv : e.val.length ≤ maxLen) :
    Calls Try.prog 28 #[.pointer (some ⟨r, 0, none⟩), entV e, .int .i64 x] w fun q w' => q = .returned (.int .i64 (Mm.code T e x)) ∧ Rt w' r (fun b => G b ∨ w.heap.size ≤ b) (Mm.put T e x) ∧ Ex (fun b => b = r) w w' := by
  have stay : ∀ c, c ≠ 0 → Mm.code T e x = c → (Calls Try.prog 28 #[.pointer (some ⟨r, 0, none⟩), entV e, .int .i64 x] w fun q w' => q = .returned (.int .i64 c) ∧ Kept w w') → (Calls Try.prog 28 #[.pointer (some ⟨r, 0, none⟩), entV e, .int .i64 x] w fun q w' => q = .returned (.int .i64 (Mm.code T e x)) ∧ Rt w' r (fun b => G b ∨ w.heap.size ≤ b) (Mm.put T e x) ∧ Ex (fun b => b = r) w w') := fun c hc0 hc hcall => by
    refine hcall.mono fun q w' ⟨h1, h2⟩ => ⟨by rw [hc]; exact h1, ?_, ex_kept h2⟩
    rw [Mm.put_no (by rw [hc]; exact hc0)]
    exact (h.kept h2).mono fun b _ hb => .inl hb
  cases hm : Mm.may e with
  | false => exact stay 2 (by decide) (by unfold Mm.code; rw [if_pos hm]) (rput_form e x hk hv hm)
  | true =>
    have hm' : ¬ Mm.may e = false := by rw [hm]; decide
    by_cases hx : x < 1 ∨ 8 < x
    · exact stay 1 (by decide) (by unfold Mm.code; rw [if_neg hm', if_pos hx]) (rput_arg e x hk hv hm hx)
    · have x1 : 1 ≤ x := by omega
      have x8 : x ≤ 8 := by omega
      obtain ⟨AL, cL, AH, cH, h0⟩ := h
      cases hh : Mm.has T e.key e.seq with
      | true => exact stay 11 (by decide) (by unfold Mm.code; rw [if_neg hm', if_neg hx, if_pos hh]) (rput_twice h0 e x hk hv hm x1 x8 hh)
      | false =>
        obtain ⟨n, rfl⟩ : ∃ n : Nat, x = (n : Int) := ⟨x.toNat, by omega⟩
        have h3 : Mm.code T e (n : Nat) = 0 := Mm.code_zero.2 ⟨hm, x1, x8, hh⟩
        rw [h3]
        have n1 : 1 ≤ n := by omega
        have n8 : n ≤ 8 := by omega
        cases hZ : Mm.Z T e.key e.seq with
        | cons z zs =>
          by_cases hk1 : z.1.key = e.key
          · have hns : z.1.seq ≠ e.seq := fun q => by
              unfold Mm.has at hh
              rw [hZ] at hh
              simp [hk1, q] at hh
            exact rput_num h0 hfw e n hk hv n1 n8 h3 z zs hZ hk1 (by rw [beq_eq_false_iff_ne]; omega)
          · exact rput_key h0 hfw e n hk hv n1 n8 h3 z zs hZ (by rw [mbs_eq]; exact decide_eq_false hk1)
        | nil =>
          rcases h0.shape with ⟨hA1, hA2, hT0⟩ | ⟨b0, o0, b1, o1, hA1, hA2⟩
          · exact rput_nil h0 hfw e n hk hv n1 n8 h3 hZ hA1 hA2 hT0
          · have hs : AL ≠ none := by rw [hA1]; simp
            by_cases cl : cL = T.length
            · by_cases ch : cH = T.length
              · exact rput_endB h0 hfw e n hk hv n1 n8 h3 hZ hs cl ch
              · exact rput_endL h0 hfw e n hk hv n1 n8 h3 hZ hs cl ch
            · by_cases ch : cH = T.length
              · exact rput_endH h0 hfw e n hk hv n1 n8 h3 hZ hs cl ch
              · exact rput_end h0 hfw e n hk hv n1 n8 h3 hZ hs cl ch
/-- a table of package mem, and the document's own, that a law has made -/
def Bt (W w : World) (p r : Nat) (T U : List Mm.Tv) : Prop := ∃ F G : Nat → Prop, Tab w p F T ∧ Rt w r G U ∧ (∀ b, F b → G b → False) ∧ (∀ b, F b → W.heap.size ≤ b ∧ b < w.heap.size) ∧ (∀ b, G b → W.heap.size ≤ b ∧ b < w.heap.size) ∧ Kept W w
theorem Bt.kept (h : Bt W w p r T U) : Kept W w := by obtain ⟨F, G, _, _, _, _, _, k⟩ := h; exact k
theorem Bt.more (h : Bt W w p r T U) (k : Kept w w') : Bt W w' p r T U := by
  obtain ⟨F, G, h1, h2, h3, h4, h5, k0⟩ := h
  exact ⟨F, G, h1.kept k, h2.kept k, h3, fun b hb => ⟨(h4 b hb).1, Nat.lt_of_lt_of_le (h4 b hb).2 (Below.size k)⟩, fun b hb => ⟨(h5 b hb).1, Nat.lt_of_lt_of_le (h5 b hb).2 (Below.size k)⟩, kept_trans k0 k⟩
theorem Bt.tab (h : Bt W w p r T U) : ∃ F, Tab w p F T := by obtain ⟨F, _, h1, _⟩ := h; exact ⟨F, h1⟩
theorem Bt.rt (h : Bt W w p r T U) : ∃ G, Rt w r G U := by obtain ⟨_, G, _, h1, _⟩ := h; exact ⟨G, h1⟩
theorem Bt.put (h : Bt W w p r T U) (hf : T.length < 1000) (e : Mm.Ent) (x : Int) (hk : e.key.length ≤ maxLen) (hv : e.val.length ≤ maxLen) :
    Calls Try.prog 27 #[.pointer (some ⟨p, 0, none⟩), entV e, .int .i64 x] w fun q w' => q = .returned (.int .i64 (Mm.code T e x)) ∧ Bt W w' p r (Mm.put T e x) U := by
  obtain ⟨F, G, h1, h2, h3, h4, h5, k0⟩ := h
  refine (mput_any h1 hf e x hk hv).mono fun q w' ⟨a1, a2, a3⟩ => ⟨a1, fun b => (F b ∨ w.heap.size ≤ b) ∧ b < w'.heap.size, G, a2.mono fun b hb hF => ⟨hF, hb⟩, h2.ex a3 (fun b hG hF => h3 b hF hG), fun b hF hG => ?_, fun b hF => ⟨?_, hF.2⟩, fun b hG => ⟨(h5 b hG).1, Nat.lt_of_lt_of_le (h5 b hG).2 a3.size⟩, ?_⟩
  · rcases hF.1 with hF | hF
    · exact h3 b hF hG
    · have := (h5 b hG).2; omega
  · rcases hF.1 with hF | hF
    · exact (h4 b hF).1
    · exact Nat.le_trans (Below.size k0) hF
  · exact Below.trans k0 (a3.below (Below.size k0) (fun i hi => (h4 i hi).1))
theorem Bt.rput (h : Bt W w p r T U) (hf : U.length < 1000) (e : Mm.Ent) (x : Int) (hk : e.key.length ≤ maxLen) (hv : e.val.length ≤ maxLen) :
    Calls Try.prog 28 #[.pointer (some ⟨r, 0, none⟩), entV e, .int .i64 x] w fun q w' => q = .returned (.int .i64 (Mm.code U e x)) ∧ Bt W w' p r T (Mm.put U e x) := by
  obtain ⟨F, G, h1, h2, h3, h4, h5, k0⟩ := h
  have hGr : G r := by obtain ⟨_, _, _, _, h⟩ := h2; exact h.gr
  refine (rput_any h2 hf e x hk hv).mono fun q w' ⟨a1, a2, a3⟩ => ⟨a1, F, fun b => (G b ∨ w.heap.size ≤ b) ∧ b < w'.heap.size, h1.ex a3 (fun b hF hb => by subst hb; exact h3 b hF hGr), a2.mono fun b hb hF => ⟨hF, hb⟩, fun b hF hG => ?_, fun b hF => ⟨(h4 b hF).1, Nat.lt_of_lt_of_le (h4 b hF).2 a3.size⟩, fun b hG => ⟨?_, hG.2⟩, ?_⟩
  · rcases hG.1 with hG | hG
    · exact h3 b hF hG
    · have := (h4 b hF).2; omega
  · rcases hG.1 with hG | hG
    · exact (h5 b hG).1
    · exact Nat.le_trans (Below.size k0) hG
  · exact Below.trans k0 (a3.below (Below.size k0) (fun i hi => by subst hi; exact (h5 i hGr).1))
/-- the document's own table, just made -/
def rtO : Obj := .cells #[.slice none 0 0, .slice none 0 0] 48
theorem rt_new (w : World) : Rt (w.alloc rtO) w.heap.size (fun b => b = w.heap.size) [] :=
  ⟨none, 0, none, 0, { blk := malloc_new w _, els := fun j x hx => by simp [Mm.ents] at hx, hls := fun j x hx => by simp [Mm.hts] at hx, capL := Nat.le_refl _, capH := Nat.le_refl _, mostL := Nat.zero_le _, mostH := Nat.zero_le _, nilL := fun _ => rfl, nilH := fun _ => rfl, gr := rfl, gL := (fun b o e => (by cases e)), gH := (fun b o e => (by cases e)), shape := .inl ⟨rfl, rfl, rfl⟩, good := ⟨List.Pairwise.nil, (fun x hx => by simp at hx), (fun x hx => by simp at hx), (fun x hx => by simp at hx)⟩, few := Nat.zero_le _ }⟩
theorem bt_new {F : Nat → Prop} (h : Tab w p F []) (hF : ∀ b, F b → W.heap.size ≤ b ∧ b < w.heap.size) (k : Kept W w) : Bt W (w.alloc rtO) p w.heap.size [] [] :=
  ⟨F, fun b => b = w.heap.size, h.kept ((Kept.refl _).alloc _), rt_new w, fun b h1 h2 => by have := (hF b h1).2; omega, fun b hb => ⟨(hF b hb).1, by rw [malloc_size]; have := (hF b hb).2; omega⟩, fun b hb => by subst hb; exact ⟨Below.size k, by rw [malloc_size]; omega⟩, kept_trans k ((Kept.refl _).alloc _)⟩
end
end Go.Proofs.Ytpbhbgoaaephgaa
