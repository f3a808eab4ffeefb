/-
  Package table: Open. The law's helper: are entries too many, or too large.
-/
import Derived.Test.YtecjnebfhbdnaaaTableBuild
import Derived.Test.YtecjnebfhbdnaaaTableAsk
import Derived.Test.YtecjnebfhbdnaaaTableEnds
namespace Go.Proofs.Ytecjnebfhbdnaaa
open Go.ChangeShapes Go.WideShapes Go.ChangeAt Go.RowKit
set_option linter.unusedVariables false
set_option maxRecDepth 100000
set_option maxHeartbeats 2000000

/-- what Open tells -/
def TOp (w : World) (s : List UInt8) (e : Ending) (w' : World) : Prop :=
  (∃ l p, Tb.dec s = some l ∧ e = .returned (.tuple #[.pointer (some ⟨p, 0, none⟩), .int .i64 0]) ∧ IsTb w' p (Tb.tv l) ∧ w.heap.size ≤ p ∧ Kept w w') ∨ (Tb.dec s = none ∧ e = .returned (.tuple #[.pointer none, .int .i64 2]) ∧ Kept w w')
theorem topen_any (s : List UInt8) (hs : s.length ≤ 1048576) (w : World) :
    Calls Try.prog 12 #[.string (bs s)] w (TOp w s) := by
  have HP := Lib.hid (tparts_any s hs)
  have HDEC := Lib.hid (show Tb.dec s = if Tb.isT (Tb.parts s).all = true ∧ Tb.enc (Tb.parts s).all = s then some (Tb.parts s).all else none from rfl)
  have HTV := Lib.hid (fun l (h : Tb.dec s = some l) => (Tb.dec_back h).2.2)
  have HMAY := Lib.hid (Tb.all_may (Tb.parts s))
  have HALL := Lib.hid (fun (W : World) p (h : IsTb W p (Tb.parts s)) => tall_any h)
  generalize (Tb.parts s).all = L at *
  generalize Tb.parts s = T at *
  clear hs
  go_enter Try.func12, Try.ntmps12
  go_wp2_with fail
  refine (HP.out _).mono ?_
  rintro e w1 ⟨p, rfl, hT, hpw, g1⟩
  have HT1 := Lib.hid hT
  have HA := Lib.hid (HALL.out w1 p hT)
  have G1 := Lib.hid g1
  clear hT g1
  go_wp2_with fail
  refine HA.out.mono ?_
  rintro e w2 ⟨B, c, rfl, hel, g2⟩
  have hbd := tbuild_any c hel.els hel.cap hel.most (fun x hx => by
    obtain ⟨_, q1, q2, _⟩ := Mm.may_iff.1 (HMAY.out x hx)
    unfold maxLen; omega)
  have HT2 := Lib.hid (HT1.out.kept g2)
  have G2 := Lib.hid (kept_trans G1.out g2)
  clear hel g2 HA HALL HT1
  by_cases hi : Tb.isT L = true
  · rw [(Tb.encS_yes hi).1, (Tb.encS_yes hi).2] at hbd
    have HBD := Lib.hid hbd
    by_cases he : Tb.enc L = s
    · have hd : Tb.dec s = some L := by rw [HDEC.out, if_pos ⟨hi, he⟩]
      have hTV := HTV.out L hd
      have t1 : ((bs (Tb.enc L)).toList == (bs s).toList) = true := by rw [mbs_eq, decide_eq_true he]
      have t2 : (!(bs (Tb.enc L)).toList == (bs s).toList) = false := by rw [t1]; rfl
      have HD := Lib.hid hd; have HV := Lib.hid hTV
      generalize Tb.enc L = X at *
      clear hbd hi he hd hTV HDEC HTV HMAY HP
      go_wp2_with fail
      refine HBD.out.mono ?_
      rintro e w3 ⟨rfl, g3⟩
      go_wp2_with fail
      go_ret2
      exact .inl ⟨L, p, HD.out, rfl, by rw [← HV.out]; exact HT2.out.kept g3, hpw, kept_trans G2.out g3⟩
    · have hd : Tb.dec s = none := by rw [HDEC.out, if_neg (fun q => he q.2)]
      have t1 : ((bs (Tb.enc L)).toList == (bs s).toList) = false := by rw [mbs_eq, decide_eq_false he]
      have t2 : (!(bs (Tb.enc L)).toList == (bs s).toList) = true := by rw [t1]; rfl
      have HD := Lib.hid hd
      generalize Tb.enc L = X at *
      clear hbd hi he hd HDEC HTV HMAY HP
      go_wp2_with fail
      refine HBD.out.mono ?_
      rintro e w3 ⟨rfl, g3⟩
      go_wp2_with fail
      go_ret2
      exact .inr ⟨HD.out, rfl, kept_trans G2.out g3⟩
  · have hi' : Tb.isT L = false := by simpa using hi
    rw [(Tb.encS_no hi').1, (Tb.encS_no hi').2] at hbd
    have HBD := Lib.hid hbd
    have hd : Tb.dec s = none := by rw [HDEC.out, if_neg (fun q => hi q.1)]
    have HD := Lib.hid hd
    clear hbd hi hi' hd HDEC HTV HMAY HP
    go_wp2_with fail
    refine HBD.out.mono ?_
    rintro e w3 ⟨rfl, g3⟩
    go_wp2_with fail
    go_ret2
    exact .inr ⟨HD.out, rfl, kept_trans G2.out g3⟩
theorem topen_enc {l : List Mm.Ent} (h : Tb.isT l = true) (w : World) :
    Calls Try.prog 12 #[.string (bs (Tb.enc l))] w fun e w' => ∃ p, e = .returned (.tuple #[.pointer (some ⟨p, 0, none⟩), .int .i64 0]) ∧ IsTb w' p (Tb.tv l) ∧ w.heap.size ≤ p ∧ Kept w w' := by
  refine (topen_any (Tb.enc l) (by have := Tb.enc_len h; omega) w).mono ?_
  rintro e w' (⟨m, p, hd, rfl, h1, h2, h3⟩ | ⟨hd, _⟩)
  · rw [Tb.dec_enc h] at hd
    injection hd with hd
    subst hd
    exact ⟨p, rfl, h1, h2, h3⟩
  · rw [Tb.dec_enc h] at hd; cases hd
theorem topen_none {s : List UInt8} (hs : s.length ≤ 1048576) (h : Tb.dec s = none) (w : World) :
    Calls Try.prog 12 #[.string (bs s)] w fun e w' => e = .returned (.tuple #[.pointer none, .int .i64 2]) ∧ Kept w w' := by
  refine (topen_any s hs w).mono ?_
  rintro e w' (⟨m, p, hd, _⟩ | ⟨_, rfl, g⟩)
  · rw [h] at hd; cases hd
  · exact ⟨rfl, g⟩
end Go.Proofs.Ytecjnebfhbdnaaa
