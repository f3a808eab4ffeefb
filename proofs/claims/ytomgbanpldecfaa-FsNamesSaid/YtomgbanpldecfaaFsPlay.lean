/-
  What large and play of the statements of layer 3 do: an act on a disk.
-/
import Derived.Test.YtomgbanpldecfaaFsCrash
namespace Go.Proofs.Ytomgbanpldecfaa
open Go.ChangeShapes Go.WideShapes Go.ChangeAt Go.RowKit Go.Maps
set_option linter.unusedVariables false
set_option maxHeartbeats 400000

structure FsAct where
  kind : Int
  n : Int
  a : ByteArray
  b : ByteArray
  k : List Int
def FsAct.large (x : FsAct) : Bool := decide (100 < x.a.size) || decide (1000 < x.b.size) || decide (100 < x.k.length)
def fplay (m : Fs.Dsk) (x : FsAct) : Fs.Dsk × Int :=
  if x.kind = 0 then Fs.create m x.a.data.toList else if x.kind = 1 then Fs.append m x.a.data.toList x.b.data.toList else if x.kind = 2 then Fs.sync m x.a.data.toList
  else if x.kind = 3 then Fs.rename m x.a.data.toList x.b.data.toList else if x.kind = 4 then Fs.remove m x.a.data.toList else if x.kind = 5 then Fs.syncDir m
  else if x.kind = 6 then (Fs.fuse m x.n, 0) else if x.kind = 7 then (Fs.quota m x.n, 0) else if x.kind = 8 then (Fs.crash m x.n x.k, 0) else (m, 0)
theorem IntsAt.kp {K : Nat → Prop} {w w' : World} {v : Value} {l : List Int} (h : IntsAt K w v l) (hk : Kp K w w') : IntsAt K w' v l := by
  obtain ⟨a, cap, e, hc⟩ := h
  refine ⟨a, cap, e, fun hne => ?_⟩
  obtain ⟨b, off, ea, hb, hcell⟩ := hc hne
  refine ⟨b, off, ea, hb, fun j hj => ?_⟩
  rw [← hcell j hj]
  simp [World.cell?, hk.block b hb]
theorem IntsAt.mono {K K' : Nat → Prop} {w : World} {v : Value} {l : List Int} (h : IntsAt K w v l) (hk : ∀ b, K b → K' b) : IntsAt K' w v l := by
  obtain ⟨a, cap, e, hc⟩ := h
  refine ⟨a, cap, e, fun hne => ?_⟩
  obtain ⟨b, off, ea, hb, hcell⟩ := hc hne
  exact ⟨b, off, ea, hk b hb, hcell⟩
theorem large_any (x : FsAct) (ka : Option Addr) (kc : Nat) (hk : x.k.length ≤ maxLen) (ha : x.a.size ≤ maxLen) (hb : x.b.size ≤ maxLen) (w : World) :
    Calls Try.prog 10 #[.agg #[.int .i64 x.kind, .int .i64 x.n, .string x.a, .string x.b, .slice ka x.k.length kc]] w fun e w' => e = .returned (.bool x.large) ∧ Kept w w' := by
  unfold maxLen at ha hb hk
  unfold FsAct.large
  go_enter Try.func10, Try.ntmps10
  go_wp2
  all_goals
    go_ret
    refine ⟨ret_bool ?_, (Kept.refl w).alloc _⟩
    rw [Bool.eq_iff_iff]
    simp
    try omega
theorem play_any {K : Nat → Prop} {w : World} {p : Nat} {G : Gh} {m : Fs.Dsk} (h : IsDisk K w p G m) (x : FsAct) (ka : Option Addr) (kc : Nat) (hkv : IntsAt K w (.slice ka x.k.length kc) x.k) (hkl : x.k.length ≤ 100) (ha : x.a.size ≤ maxLen) (hb : x.b.size ≤ maxLen)
    (hn : x.n ≤ 9223372036854775807) (ht : Fs.tot m.files + x.b.data.toList.length ≤ 1099511627776) (hp : m.pend.length < 1099511627776) :
    Calls Try.prog 11 #[.pointer (some ⟨p, 0, none⟩), .agg #[.int .i64 x.kind, .int .i64 x.n, .string x.a, .string x.b, .slice ka x.k.length kc]] w (DkRet K w p (fplay m x)) := by
  obtain ⟨kind, n, a, b, k⟩ := x
  simp only at hkv hkl ha hb hn ht ⊢
  have hka : ∀ o, Kept w (w.alloc o) := fun o => (Kept.refl w).alloc o
  have h0 : ∀ o, IsDisk K (w.alloc o) p G m := fun o => h.kept (hka o)
  have k0 : ∀ o, Kp K w (w.alloc o) := fun o => kp_kept (hka o) h.lt
  unfold fplay
  simp only
  by_cases e0 : kind = 0
  · subst e0
    rw [if_pos rfl]
    have hc := fun o => create_any (h0 o) a ha hp
    have HC := Lib.hid hc; clear hc
    go_enter Try.func11, Try.ntmps11
    go_wp2_with (go_at_call 12; refine (HC.out _).mono ?_; rintro e w1 ⟨rfl, d1, k1⟩)
    go_ret
    exact ⟨rfl, d1, (k0 _).trans k1⟩
  rw [if_neg e0]
  by_cases e1 : kind = 1
  · subst e1
    clear e0
    rw [if_pos rfl]
    have hc := fun o => append_any (h0 o) a b ha hb ht
    have HC := Lib.hid hc; clear hc
    go_enter Try.func11, Try.ntmps11
    go_wp2_with (go_at_call 13; refine (HC.out _).mono ?_; rintro e w1 ⟨rfl, d1, k1⟩)
    go_ret
    exact ⟨rfl, d1, (k0 _).trans k1⟩
  rw [if_neg e1]
  by_cases e2 : kind = 2
  · subst e2
    clear e0 e1
    rw [if_pos rfl]
    have hc := fun o => sync_any (h0 o) a ha
    have HC := Lib.hid hc; clear hc
    go_enter Try.func11, Try.ntmps11
    go_wp2_with (go_at_call 14; refine (HC.out _).mono ?_; rintro e w1 ⟨rfl, d1, k1⟩)
    go_ret
    exact ⟨rfl, d1, (k0 _).trans k1⟩
  rw [if_neg e2]
  by_cases e3 : kind = 3
  · subst e3
    clear e0 e1 e2
    rw [if_pos rfl]
    have hc := fun o => rename_any (h0 o) a b ha hb hp
    have HC := Lib.hid hc; clear hc
    go_enter Try.func11, Try.ntmps11
    go_wp2_with (go_at_call 24; refine (HC.out _).mono ?_; rintro e w1 ⟨rfl, d1, k1⟩)
    go_ret
    exact ⟨rfl, d1, (k0 _).trans k1⟩
  rw [if_neg e3]
  by_cases e4 : kind = 4
  · subst e4
    clear e0 e1 e2 e3
    rw [if_pos rfl]
    have hc := fun o => remove_any (h0 o) a ha hp
    have HC := Lib.hid hc; clear hc
    go_enter Try.func11, Try.ntmps11
    go_wp2_with (go_at_call 26; refine (HC.out _).mono ?_; rintro e w1 ⟨rfl, d1, k1⟩)
    go_ret
    exact ⟨rfl, d1, (k0 _).trans k1⟩
  rw [if_neg e4]
  by_cases e5 : kind = 5
  · subst e5
    clear e0 e1 e2 e3 e4
    rw [if_pos rfl]
    have hc := fun o => syncDir_any (h0 o)
    have HC := Lib.hid hc; clear hc
    go_enter Try.func11, Try.ntmps11
    go_wp2_with (go_at_call 15; refine (HC.out _).mono ?_; rintro e w1 ⟨rfl, d1, k1⟩)
    go_ret
    exact ⟨rfl, d1, (k0 _).trans k1⟩
  rw [if_neg e5]
  by_cases e6 : kind = 6
  · subst e6
    clear e0 e1 e2 e3 e4 e5
    rw [if_pos rfl]
    have hc := fun o => fuse_any (h0 o) n hn
    have HC := Lib.hid hc; clear hc
    go_enter Try.func11, Try.ntmps11
    go_wp2_with (go_at_call 23; refine (HC.out _).mono ?_; rintro e w1 ⟨rfl, d1, k1⟩)
    go_ret
    exact ⟨rfl, ⟨_, d1⟩, (k0 _).trans k1⟩
  rw [if_neg e6]
  by_cases e7 : kind = 7
  · subst e7
    clear e0 e1 e2 e3 e4 e5 e6
    rw [if_pos rfl]
    have hc := fun o => quota_any (h0 o) n hn
    have HC := Lib.hid hc; clear hc
    go_enter Try.func11, Try.ntmps11
    go_wp2_with (go_at_call 25; refine (HC.out _).mono ?_; rintro e w1 ⟨rfl, d1, k1⟩)
    go_ret
    exact ⟨rfl, ⟨_, d1⟩, (k0 _).trans k1⟩
  rw [if_neg e7]
  by_cases e8 : kind = 8
  · subst e8
    clear e0 e1 e2 e3 e4 e5 e6 e7
    rw [if_pos rfl]
    have hc := fun o => crash_any (h0 o) n _ k (by omega) (hkv.kp (k0 o))
    have HC := Lib.hid hc; clear hc
    go_enter Try.func11, Try.ntmps11
    go_wp2_with (go_at_call 16; refine (HC.out _).mono ?_; rintro e w1 ⟨rfl, d1, k1⟩)
    go_ret
    exact ⟨rfl, d1, (k0 _).trans k1⟩
  rw [if_neg e8]
  have b0 : (kind == 0) = false := by simpa using e0
  have b1 : (kind == 1) = false := by simpa using e1
  have b2 : (kind == 2) = false := by simpa using e2
  have b3 : (kind == 3) = false := by simpa using e3
  have b4 : (kind == 4) = false := by simpa using e4
  have b5 : (kind == 5) = false := by simpa using e5
  have b6 : (kind == 6) = false := by simpa using e6
  have b7 : (kind == 7) = false := by simpa using e7
  have b8 : (kind == 8) = false := by simpa using e8
  clear e0 e1 e2 e3 e4 e5 e6 e7 e8
  go_enter Try.func11, Try.ntmps11
  go_wp2
  go_ret
  exact ⟨rfl, ⟨_, h0 _⟩, k0 _⟩
end Go.Proofs.Ytomgbanpldecfaa
