/-
  What comes into the laws of layer 8: a list of entries, rows of entries.
-/
import Derived.Test.YtpbhbgoaaephgaaMergeAwake
namespace Go.Proofs.Ytpbhbgoaaephgaa
open Go.ChangeShapes Go.WideShapes Go.ChangeAt Go.RowKit
set_option linter.unusedVariables false
set_option maxRecDepth 100000
set_option maxHeartbeats 1000000

section
variable {H : Type} {enc : TypeId × Value → H} {w : World}
/-- rows that come in, of any length -/
structure Rwx (w : World) (A : Option Addr) (rs : List Rs) : Prop where
  at_ : ∀ (j : Nat) (r : Rs), rs[j]? = some r → ∃ b o, A = some ⟨b, o, none⟩ ∧ b < w.heap.size ∧ w.cell? ⟨b, o + j, none⟩ = some (.slice r.A r.l.length r.c)
  els : ∀ r ∈ rs, Els w r.A r.l
  cap : ∀ r ∈ rs, r.l.length ≤ r.c
  most : ∀ r ∈ rs, r.c ≤ maxLen
  ok : ∀ r ∈ rs, OkEs r.l
theorem Rwx.kept {w w' : World} {A : Option Addr} {rs : List Rs} (h : Rwx w A rs) (k : Kept w w') : Rwx w' A rs :=
  ⟨fun j r hr => by obtain ⟨b, o, e, hb, hc⟩ := h.at_ j r hr; exact ⟨b, o, e, Nat.lt_of_lt_of_le hb (Below.size k), by rw [kept_cell k hb]; exact hc⟩, fun r hr => (h.els r hr).kept k, h.cap, h.most, h.ok⟩
theorem flat_ge {rs : List Rs} {r : Rs} (h : r ∈ rs) : r.l.length ≤ (rs.map Rs.l).flatten.length := by
  obtain ⟨a, b, e⟩ := List.append_of_mem h
  rw [e, List.map_append, List.flatten_append, List.map_cons, List.flatten_cons, List.length_append, List.length_append]
  omega
theorem Rwx.rws {w : World} {A : Option Addr} {rs : List Rs} (h : Rwx w A rs) (hf : (rs.map Rs.l).flatten.length ≤ 300) : Rws w A rs :=
  ⟨h.at_, h.els, fun r hr => Nat.le_trans (flat_ge hr) (by omega), h.cap, h.most⟩
/-- rows that come in -/
theorem open_rws {fuel : Nat} {cs : List Value} {x : DataW H × List MemPlace} (h : DataW.trod enc Try.prog w 0 (fun _ => true) true fuel 64 cs = some x) :
    ∃ (A : Option Addr) (cap : Nat) (rs : List Rs), cs = [.slice A rs.length cap] ∧ Rwx w A rs ∧ rs.length ≤ cap ∧ cap ≤ maxLen := by
  rcases Deep.open_slice1 Try.underlying64 mcellsEs h with ⟨rfl, _⟩ | ⟨a, len, cap, m, n, V, D, Pl, rfl, _, hl, hm, hmm, _, hi⟩
  · exact ⟨none, 0, [], rfl, ⟨fun j x hx => by simp at hx, fun r hr => by simp at hr, fun r hr => by simp at hr, fun r hr => by simp at hr, fun r hr => by simp at hr⟩, by simp, by simp⟩
  · rw [if_pos rfl] at hmm
    have key : ∀ i, i < len → ∃ (r : Rs) (b o : Nat), a = ⟨b, o, none⟩ ∧ b < w.heap.size ∧ w.cell? ⟨b, o + i, none⟩ = some (.slice r.A r.l.length r.c) ∧ Els w r.A r.l ∧ r.l.length ≤ r.c ∧ r.c ≤ maxLen ∧ OkEs r.l := fun i hil => by
      obtain ⟨h00, _⟩ := hi 0 (by omega)
      rw [madd_zero] at h00
      obtain ⟨b, o, rfl, hbl⟩ := maddr_at h00
      obtain ⟨hc, ht⟩ := hi i (by omega)
      obtain ⟨A', c', l, e, q⟩ := open_es ht
      injection e with e
      rw [e, madd_at] at hc
      exact ⟨⟨A', c', l, 0⟩, b, o, rfl, hbl, hc, q⟩
    have hch : ∀ i, ∃ r : Rs, i < len → ∃ b o, a = ⟨b, o, none⟩ ∧ b < w.heap.size ∧ w.cell? ⟨b, o + i, none⟩ = some (.slice r.A r.l.length r.c) ∧ Els w r.A r.l ∧ r.l.length ≤ r.c ∧ r.c ≤ maxLen ∧ OkEs r.l := fun i => by
      by_cases hil : i < len
      · obtain ⟨x, r⟩ := key i hil
        exact ⟨x, fun _ => r⟩
      · exact ⟨⟨none, 0, [], 0⟩, fun hh => absurd hh hil⟩
    obtain ⟨f, hf⟩ := Classical.axiomOfChoice hch
    have hlen : ((List.range len).map f).length = len := by simp
    have hat : ∀ i x, ((List.range len).map f)[i]? = some x → i < len ∧ f i = x := fun i x hx => by
      have hil : i < len := by
        have := (List.getElem?_eq_some_iff.1 hx).1
        rw [hlen] at this; exact this
      exact ⟨hil, by simpa [hil] using hx⟩
    have hmem : ∀ x ∈ (List.range len).map f, Els w x.A x.l ∧ x.l.length ≤ x.c ∧ x.c ≤ maxLen ∧ OkEs x.l := fun x hx => by
      obtain ⟨i, hi'⟩ := List.getElem?_of_mem hx
      obtain ⟨hil, hfx⟩ := hat i x hi'
      obtain ⟨b, o, e, hb, _, hc⟩ := hf i hil
      rw [hfx] at hc
      exact hc
    refine ⟨some a, cap, (List.range len).map f, by rw [hlen], ⟨fun i x hx => ?_, fun r hr => (hmem r hr).1, fun r hr => (hmem r hr).2.1, fun r hr => (hmem r hr).2.2.1, fun r hr => (hmem r hr).2.2.2⟩, by rw [hlen]; exact hl, hm⟩
    obtain ⟨hil, hfx⟩ := hat i x hx
    obtain ⟨b, o, e, hb, hc, _⟩ := hf i hil
    rw [hfx] at hc
    exact ⟨b, o, by rw [e], hb, hc⟩
end
theorem flat_step {rs : List Rs} {i : Nat} {r : Rs} (h : rs[i]? = some r) : ((rs.take (i + 1)).map Rs.l).flatten.length = ((rs.take i).map Rs.l).flatten.length + r.l.length := by
  rw [List.take_add_one, h, List.map_append, List.flatten_append, List.length_append]
  simp
/-- what 'large' tells: that it isn't, only if it is small -/
def LgRet (w : World) (rs : List Rs) (e : Ending) (w' : World) : Prop := ∃ B, e = .returned (.bool B) ∧ Kept w w' ∧ (B = false → rs.length ≤ 30 ∧ (rs.map Rs.l).flatten.length ≤ 300)
theorem glarge_any {w : World} {A : Option Addr} {rs : List Rs} (c : Nat) (H : Rwx w A rs) (hn : rs.length ≤ maxLen) :
    Calls Try.prog 42 #[.slice A rs.length c] w (LgRet w rs) := by
  have HR := Lib.hid H
  unfold maxLen at hn
  clear H
  go_enter Try.func42, Try.ntmps42
  go_wp2_with fail
  go_loopw [3, 8] (fun x t wr => ∃ (i : Nat) (s : Int), i ≤ rs.length ∧ t = .int .i64 (i : Nat) ∧ x = .int .i64 s ∧ Hid (rs.length ≤ 30 → s = (((rs.take i).map Rs.l).flatten.length : Int) ∧ s ≤ 301 * (i : Int)) ∧ Hid (Kept w wr)) (fun _ t _ => rs.length - (intOf t).toNat)
  case atStart => exact ⟨0, 0, Nat.zero_le _, rfl, rfl, Lib.hid (fun _ => ⟨rfl, by omega⟩), Lib.hid (Kept.refl _)⟩
  case round =>
    obtain ⟨i, s, hi, rfl, rfl, HS, HK⟩ := hrel
    by_cases hlt : i < rs.length
    · obtain ⟨r, hr⟩ : ∃ r, rs[i]? = some r := ⟨_, List.getElem?_eq_getElem hlt⟩
      have hm := List.mem_of_getElem? hr
      have HX := Lib.hid (HR.out.kept HK.out)
      obtain ⟨b, o, rfl, hb, c0⟩ := HX.out.at_ i r hr
      have hl := Nat.le_trans (HR.out.cap r hm) (HR.out.most r hm)
      unfold maxLen at hl
      have HF := Lib.hid (flat_step hr)
      have HE := Lib.hid (HX.out.els r hm)
      have HO := Lib.hid (HR.out.ok r hm)
      clear hr hm
      go_wp2_with fail
      go_loopw [23] (fun y wi => ∃ k : Nat, k ≤ r.l.length ∧ k ≤ 301 ∧ y = .int .i64 (k : Nat) ∧ Hid (Kept wr wi)) (fun y _ => r.l.length - (intOf y).toNat)
      case atStart => exact ⟨0, Nat.zero_le _, by omega, rfl, Lib.hid (Kept.refl _)⟩
      case round =>
        obtain ⟨k, hk, hk3, rfl, HK2⟩ := hrel
        have c0' := (kept_cell HK2.out (p := ⟨b, o + i, none⟩) hb).trans c0
        by_cases hlt2 : k < r.l.length
        · obtain ⟨x, hx⟩ : ∃ x, r.l[k]? = some x := ⟨_, List.getElem?_eq_getElem hlt2⟩
          obtain ⟨b2, o2, hA, hb2, p0, p1, p2, p3⟩ := (HE.out.kept HK2.out) k x hx
          have hsz := HO.out x (List.mem_of_getElem? hx)
          rw [hA] at c0' c0
          have e1 := mbs_size x.key; have e2 := mbs_size x.val
          have HKK := Lib.hid (kept_trans HK.out HK2.out)
          unfold maxLen at hsz
          obtain ⟨z1, z2, _⟩ := hsz
          clear hx
          by_cases h1 : 300 < k
          · have d1 : decide ((300 : Int) < (k : Int)) = true := decide_eq_true (by omega)
            clear e1 e2
            go_wp2_with fail
            go_ret
            exact ⟨true, rfl, HKK.out, fun e => by cases e⟩
          · have d1 : decide ((300 : Int) < (k : Int)) = false := decide_eq_false (by omega)
            have d1' : k ≤ 300 := by omega
            by_cases h2 : 300 < x.key.length
            · have d2 : decide ((300 : Int) < ((bs x.key).size : Int)) = true := by rw [e1]; simp; omega
              clear e1 e2
              go_wp2_with fail
              go_ret
              exact ⟨true, rfl, HKK.out, fun e => by cases e⟩
            · have d2 : decide ((300 : Int) < ((bs x.key).size : Int)) = false := by rw [e1]; simp; omega
              by_cases h3 : 300 < x.val.length
              · have d3 : decide ((300 : Int) < ((bs x.val).size : Int)) = true := by rw [e2]; simp; omega
                clear e1 e2
                go_wp2_with fail
                go_ret
                exact ⟨true, rfl, HKK.out, fun e => by cases e⟩
              · have d3 : decide ((300 : Int) < ((bs x.val).size : Int)) = false := by rw [e2]; simp; omega
                clear e1 e2
                go_wp2_with fail
                go_roundw
                case rel => exact ⟨k + 1, by omega, by omega, by go_num, HK2⟩
                case measure => simp [intOf]; omega
        · have e : k = r.l.length := by omega
          have HKK := Lib.hid (kept_trans HK.out HK2.out)
          have hl3 : r.l.length ≤ 301 := by omega
          have HS2 := Lib.hid (show rs.length ≤ 30 → wrap64 (s + (r.l.length : Int)) = (((rs.take (i + 1)).map Rs.l).flatten.length : Int) ∧ wrap64 (s + (r.l.length : Int)) ≤ 301 * ((i + 1 : Nat) : Int) from fun h30 => by
            obtain ⟨q1, q2⟩ := HS.out h30
            have q3 := HF.out
            have q4 : wrap64 (s + (r.l.length : Int)) = s + (r.l.length : Int) := by unfold wrap64; omega
            rw [q4]
            omega)
          subst e
          go_wp2_with fail
          go_roundw
          case rel => exact ⟨i + 1, _, by omega, by go_num, rfl, HS2, HKK⟩
          case measure => simp [intOf]; omega
    · have e : i = rs.length := by omega
      subst e
      have hS := HS.out
      rw [List.take_length] at hS
      have HS2 := Lib.hid hS
      clear hS
      by_cases h1 : (300 : Int) < s
      · have d1 : decide ((300 : Int) < s) = true := decide_eq_true h1
        go_wp2_with fail
        go_ret
        exact ⟨true, rfl, HK.out, fun e => by cases e⟩
      · have d1 : decide ((300 : Int) < s) = false := decide_eq_false h1
        by_cases h2 : 30 < rs.length
        · have d2 : decide ((30 : Int) < (rs.length : Int)) = true := decide_eq_true (by omega)
          go_wp2_with fail
          go_ret
          exact ⟨true, rfl, HK.out, fun e => by cases e⟩
        · have d2 : decide ((30 : Int) < (rs.length : Int)) = false := decide_eq_false (by omega)
          have d2' : rs.length ≤ 30 := by omega
          go_wp2_with fail
          go_ret
          exact ⟨false, rfl, HK.out, fun _ => ⟨d2', by have := (HS2.out d2').1; omega⟩⟩
end Go.Proofs.Ytpbhbgoaaephgaa
