/-
  The walk of the statement KeyReads: it answers true for every string.
-/
import Derived.Test.YtfllijckoabnmaaKeyAwake
import Derived.Test.YtfllijckoabnmaaKeyRefRead
import Derived.OpenShut
import Derived.Deep.RegionWith
namespace Go.Proofs.Ytfllijckoabnmaa
open Go.ChangeShapes Go.WideShapes Go.ChangeAt Go.RowKit
set_option linter.unusedVariables false
set_option maxHeartbeats 400000
theorem kept_of_drew {w w1 : World} (h : Kept w.drew w1) : Kept w w1 := ⟨(Below.os h :), (Below.tape h :), (Below.output h :), (Below.size h :), (Below.block h :)⟩
theorem reads_big (s : ByteArray) (hs : s.size ≤ maxLen) (h : ¬ s.size ≤ 1024) (w : World) :
    Calls Try.prog 4 #[.string s] w fun e w' => e = .returned (.bool true) ∧ Kept w w' := by
  unfold maxLen at hs
  go_enter Try.func4, Try.ntmps4
  go_wp2_with fail
  refine (kawake_any _).mono ?_; rintro e w1 ⟨rfl, g1⟩
  go_wp2_with fail
  go_ret
  exact ⟨rfl, g1⟩
set_option maxRecDepth 100000 in
set_option maxHeartbeats 4000000 in
theorem reads_all (s : ByteArray) (c : Int) (u : List UInt8) (t x : Int) (a b : List UInt8) (y : Int) (d1 : decide (1024 < (s.size : Int)) = false)
    (H1 : Hid (∀ w, Calls Try.prog 22 #[.string s] w fun e w' => e = .returned (.tuple #[.agg #[.int .i64 c, .string (bs u), .int .u64 t], .int .i64 x]) ∧ Kept w w'))
    (H2 : Hid (∀ w, Calls Try.prog 23 #[.string s] w fun e w' => e = .returned (.tuple #[.agg #[.int .i64 c, .string (bs u), .int .u64 t], .int .i64 x]) ∧ Kept w w'))
    (H3 : Hid (∀ w, Calls Try.prog 24 #[.string s] w fun e w' => e = .returned (.tuple #[.string (bs a), .string (bs b), .int .i64 y]) ∧ Kept w w'))
    (H4 : Hid (∀ w, Calls Try.prog 25 #[.string s] w fun e w' => e = .returned (.tuple #[.string (bs a), .string (bs b), .int .i64 y]) ∧ Kept w w')) (w : World) :
    Calls Try.prog 4 #[.string s] w fun e w' => e = .returned (.bool true) ∧ Kept w w' := by
  go_enter Try.func4, Try.ntmps4
  go_wp2_with fail
  refine (kawake_any _).mono ?_; rintro e w1 ⟨rfl, g1⟩
  go_wp2_with fail
  refine (H1.out _).mono ?_; rintro e w2 ⟨rfl, g2⟩
  go_wp2_with fail
  refine (H2.out _).mono ?_; rintro e w3 ⟨rfl, g3⟩
  have hlt := kept_lt g3
  obtain ⟨⟨c0, c1, c2⟩, f0, f1, f2⟩ := three g3
  go_wp2_with fail
  go_region_with (go_at_call 13; refine (own_any _ _ _ _).mono ?_; rintro e w4 ⟨rfl, g4⟩; obtain ⟨⟨q0, q1, q2⟩, qf⟩ := three (kept_of_drew g4))
  all_goals
    clear c0 c1 c2 f0 f1 f2 q0 q1 q2 qf hlt
    go_wp2_with fail
    refine (H3.out _).mono ?_; rintro e w5 ⟨rfl, g5⟩
    go_wp2_with fail
    refine (H4.out _).mono ?_; rintro e w6 ⟨rfl, g6⟩
    go_wp2_with fail
    go_ret
    exact ⟨ret_bool (by simp), kept_trans g1 (kept_trans g2 (kept_trans (kept_trans ((Kept.refl _).alloc _) g3) (kept_trans (kept_trans ((Kept.refl _).alloc _) (kept_of_drew g4)) (kept_trans g5 g6))))⟩
theorem KeyReads_walk (s : ByteArray) (w0 : s.size ≤ maxLen) (w : World) :
    Calls Try.prog 4 #[.string s] w fun e w' => e = .returned (.bool true) ∧ Kept w w' := by
  by_cases hs : s.size ≤ 1024
  · have d1 : decide (1024 < (s.size : Int)) = false := by simp; omega
    have hs2 : s.size ≤ 4096 := by omega
    by_cases hK : IsKey s.data.toList
    · obtain ⟨c, u, t, h, he⟩ := hK
      by_cases hB : Begins s.data.toList
      · obtain ⟨a, b, hab, hm⟩ := hB
        exact reads_all s c u t 0 a b 0 d1 (kread_yes s c u t hs2 h he) (rkread_yes s c u t hs2 h he) (kunescape_yes s a b hs2 hab hm) (rkunescape_yes s a b hs2 hab hm) w
      · exact reads_all s c u t 0 [] [] 2 d1 (kread_yes s c u t hs2 h he) (rkread_yes s c u t hs2 h he) (kunescape_no s hs2 hB) (rkunescape_no s hs2 hB) w
    · by_cases hB : Begins s.data.toList
      · obtain ⟨a, b, hab, hm⟩ := hB
        exact reads_all s 0 [] 0 2 a b 0 d1 (kread_no s hs2 hK) (rkread_no s hs2 hK) (kunescape_yes s a b hs2 hab hm) (rkunescape_yes s a b hs2 hab hm) w
      · exact reads_all s 0 [] 0 2 [] [] 2 d1 (kread_no s hs2 hK) (rkread_no s hs2 hK) (kunescape_no s hs2 hB) (rkunescape_no s hs2 hB) w
  · exact reads_big s w0 hs w
end Go.Proofs.Ytfllijckoabnmaa
