/-
  The contract of wal.Numbers on a disk of one log.
-/
import Derived.Test.YtlkcdcpdccmodaaGreatDoorWalIter
import Derived.Test.YtlkcdcpdccmodaaGreatDoorFsAwake
namespace Go.Proofs.YtlkcdcpdccmodaaGreatDoor
open Go.ChangeShapes Go.WideShapes Go.ChangeAt Go.RowKit
set_option linter.unusedVariables false
set_option maxRecDepth 100000
set_option maxHeartbeats 1000000

theorem len64_one (w : World) : Calls Tryz.prog 119 #[.int .u64 1] w fun e w' => e = .returned (.int .i64 1) ∧ w = w' := by
  go_enter Tryz.func119, Tryz.ntmps119
  go_wp2_with fail
  go_ret
  refine ⟨?_, rfl⟩
  show Ending.returned (Value.int .i64 (wrap64 (wrap64 (Lib.len8 1)))) = _
  rw [show wrap64 (wrap64 (Lib.len8 1)) = 1 by kernel_rfl]
theorem len_one (w : World) : Calls Tryz.prog 107 #[.int .u64 1] w fun e w' => e = .returned (.int .i64 1) ∧ w = w' := by
  have HC := Lib.hid (len64_one w)
  go_enter Tryz.func107, Tryz.ntmps107
  go_wp2_with fail
  refine HC.out.mono ?_
  rintro e w1 ⟨rfl, rfl⟩
  go_wp2_with fail
  go_ret
  exact ⟨rfl, rfl⟩
theorem ins_one (v : Value) (w : World) : Calls Tryz.prog 123 #[v, .int .i64 0, .int .i64 1] w fun e w' => e = .returned (.tuple #[]) ∧ w = w' := by
  go_enter Tryz.func123, Tryz.ntmps123
  go_wp2_with fail
  refine wp_loop_rounds 1 ?_
  rw [rounds_succ]
  go_wp2_with fail
  go_end0
  exact ⟨rfl, rfl⟩
theorem pdq_one (v : Value) (w : World) : Calls Tryz.prog 106 #[v, .int .i64 0, .int .i64 1, .int .i64 1] w fun e w' => e = .returned (.tuple #[]) ∧ w = w' := by
  have HC := Lib.hid (ins_one v w)
  go_enter Tryz.func106, Tryz.ntmps106
  go_wp2_with fail
  refine wp_loop_rounds 1 ?_
  rw [rounds_succ]
  go_wp2_with fail
  refine HC.out.mono ?_
  rintro e w1 ⟨rfl, rfl⟩
  go_wp2_with fail
  exact bodyPost_ret (v := .tuple #[]) (by simp [results, Tryz.results106, go_sem]) rfl ⟨rfl, rfl⟩
theorem sorts_one (x : Nat) : SortsTo [x] [x] := by
  intro base v W hr hb
  obtain ⟨va, vc, rfl⟩ := own_shape hr
  have HL := Lib.hid (len_one W)
  have HP := Lib.hid (pdq_one (.slice va 1 vc) W)
  have HR := Lib.hid hr; clear hr
  show Calls _ _ #[.slice va 1 vc] _ _
  go_enter Tryz.func93, Tryz.ntmps93
  go_wp2_with fail
  refine HL.out.mono ?_
  rintro e w1 ⟨rfl, rfl⟩
  go_wp2_with fail
  refine HP.out.mono ?_
  rintro e w1 ⟨rfl, rfl⟩
  go_wp2_with fail
  go_end0
  exact ⟨rfl, HR.out, Below.refl _ _⟩
/-- a list of names in memory -/
def Nms (w : World) (A : Option Addr) (ns : List (List UInt8)) : Prop := ∀ (j : Nat) (x : List UInt8), ns[j]? = some x → ∃ b o c z, A = some ⟨b, o, none⟩ ∧ w.heap[b]? = some (.cells c 9 z) ∧ c[o + j]? = some (.string (bs x))
theorem Nms.oth {w w' : World} {A : Option Addr} {ns : List (List UInt8)} (h : Nms w A ns) (o : Oth w w') : Nms w' A ns := fun j x hx => by
  obtain ⟨b, of, c, z, e, hb, hc⟩ := h j x hx
  exact ⟨b, of, c, z, e, o.same b c _ z hb (by decide) (by decide), hc⟩
theorem Nms.cell {w : World} {b o : Nat} {ns : List (List UInt8)} (h : Nms w (some ⟨b, o, none⟩) ns) {j : Nat} {x : List UInt8} (hx : ns[j]? = some x) : w.cell? ⟨b, o + j, none⟩ = some (.string (bs x)) := by
  obtain ⟨b', of, c, z, e, hb, hc⟩ := h j x hx
  cases e
  exact cell_of hb _ hc
theorem nms_own {w : World} {base n : Nat} {v : Value} {ns : List (List UInt8)} (h : w.ownsRow base 9 1 v n (ns.map Go.Proofs.encStr)) : ∃ A c, v = .slice A ns.length c ∧ n = ns.length ∧ Nms w A ns := by
  have hl : ns.length = n := by have := h.1; simpa using this
  rcases h.2 with ⟨e, e0⟩ | ⟨r, cap, cur, e, hbs, hb, hnc, _, _, htk⟩
  · have hn : ns = [] := List.eq_nil_of_length_eq_zero (by omega)
    subst hn
    exact ⟨none, 0, by rw [e]; rfl, hl.symm, fun j x hx => by simp at hx⟩
  · refine ⟨some ⟨r, 0, none⟩, cap, by rw [e, hl], hl.symm, fun j x hx => ⟨r, 0, cur, _, rfl, hb, ?_⟩⟩
    have h1 : (cur.toList.take (n * 1))[j]? = some (Go.Proofs.encStr x) := by rw [htk, List.getElem?_map, hx]; rfl
    rw [List.getElem?_take] at h1
    split at h1
    · rw [Nat.zero_add, ← Array.getElem?_toList, h1]; rfl
    · cases h1
set_option maxHeartbeats 4000000 in
/-- a disk's logs are gone through -/
theorem numbers_gives {K : Nat → Prop} {w : World} {p : Nat} {G : Gh} {m : Fs.Dsk} (h : IsDisk K w p G m) (l : Nat) (J : List Nat → World → Prop) (W : World) (hk : Kept w W) (hT : Takes l 3 J) (h0 : J [] W) :
    CallsIn Fence.wide 4 Tryz.prog 66 #[.agg #[.pointer (some ⟨p, 0, none⟩)], .func (.yield l) #[] #[]] W fun e W' => (∃ v, e = .returned v) ∧ J ((Fs.list m).filterMap Wl.number) W' := by
  have hfew : (Fs.list m).length ≤ 60 := by have := h.good.dir.few; simpa [Fs.list] using this
  have hmay : ∀ x ∈ Fs.list m, x.length ≤ 20 := fun x hx => by
    obtain ⟨q, hq, rfl⟩ := List.mem_map.1 hx
    exact (Fs.may_le (h.good.dir.each q hq).1).2
  have HLst := Lib.hid (fun W1 (k : Kept W W1) => callsIn_wide (n := 3).2 (list_any (h.kept (kept_trans hk k))))
  have hlen : m.names.length = (Fs.list m).length := by simp [Fs.list]
  rw [hlen] at HLst
  clear h hlen
  generalize Fs.list m = ns at *
  have HT := Lib.hid hT; clear hT
  have HMay := Lib.hid hmay; clear hmay
  refine callsIn_of_wp Tryz.func66 rfl trivial ?_ rfl
  simp only [Tryz.ntmps66, List.size_toArray, List.length_cons, List.length_nil, Nat.reduceAdd, Nat.reduceSub, Array.replicate_succ, Array.replicate_zero, List.push_toArray, List.append_toArray, List.nil_append, List.cons_append]
  gi_wp2
  refine ⟨trivial, (HLst.out _ ((Kept.refl W).alloc _)).mono ?_⟩
  rintro e w1 ⟨v, rfl, hr, k1⟩
  obtain ⟨A, c, rfl, _, hN⟩ := nms_own hr
  have j1 : J [] w1 := HT.out.kept _ _ _ h0 (kept_trans ((Kept.refl W).alloc _) k1)
  clear HLst hr k1
  gi_wp2
  gi_loopw [12] (fun t wr => ∃ k : Nat, k ≤ ns.length ∧ t = .int .i64 (k : Int) ∧ Nms wr A ns ∧ J ((ns.take k).filterMap Wl.number) wr) (fun t _ => ns.length - (intOf t).toNat)
  case atStart => exact ⟨0, by omega, rfl, hN, j1⟩
  case round =>
    obtain ⟨k, hkl, rfl, hN2, hJ⟩ := hrel
    by_cases hlt : k < ns.length
    · have hx : ns[k]? = some ns[k] := List.getElem?_eq_getElem hlt
      have etake : (ns.take (k + 1)).filterMap Wl.number = (ns.take k).filterMap Wl.number ++ ([ns[k]].filterMap Wl.number) := by
        rw [List.take_add_one, hx, List.filterMap_append]; rfl
      have hsz : ns[k].length ≤ 20 := HMay.out _ (List.getElem_mem hlt)
      have hpl : ((ns.take k).filterMap Wl.number).length < 60 := by
        have h1 := List.length_filterMap_le Wl.number (ns.take k)
        rw [List.length_take] at h1
        omega
      obtain ⟨b, o, cc, z, rfl, hb, hc⟩ := hN2 k _ hx
      have hcell := hN2.cell hx
      have hv := HT.out.vars _ _ hJ
      have ET := Lib.hid etake; clear etake
      have PL := Lib.hid hpl; clear hpl
      have hil : (k : Int) < (ns.length : Int) := by omega
      generalize ns[k] = nmk at *
      have hbsz : (bs nmk).size = nmk.length := by simp [bs, ByteArray.size]
      cases en : Wl.number nmk with
      | none =>
        have HN := Lib.hid (callsIn_wide (n := 3).2 (wnumber_none (bs nmk) (by omega) en wr hv))
        gi_wp2
        refine ⟨trivial, HN.out.mono ?_⟩
        rintro e w2 ⟨rfl, k2⟩
        have j2 := HT.out.kept _ _ _ hJ k2
        have n2 := hN2.oth (Oth.kept k2)
        have EN := Lib.hid en
        clear en hb hc hcell hx hbsz hN hN2 hJ HN hv hsz
        gi_wp2
        refine ⟨fun _ _ => trivial, ?_⟩
        gi_wp2
        go_roundw
        case rel => exact ⟨k + 1, by omega, by go_num, n2, by rw [ET.out]; simpa [EN.out] using j2⟩
        case measure => simp [intOf]; omega
      | some n =>
        obtain ⟨hn, e'⟩ := Wl.number_iff.1 en
        have HN := Lib.hid (callsIn_wide (n := 3).2 (wnumber_some hn wr hv))
        rw [← e'] at HN
        have EN := Lib.hid en
        clear e' en hn
        gi_wp2
        refine ⟨trivial, HN.out.mono ?_⟩
        rintro e w2 ⟨rfl, k2⟩
        have j2 := HT.out.kept _ _ _ hJ k2
        obtain ⟨fn, tmps, assign, body, hy, hR⟩ := HT.out.round _ n w2 j2 PL.out
        have n2 := hN2.oth (Oth.kept k2)
        clear hb hc hcell hx hbsz hN hN2 hJ HN hv hsz
        gi_wp2
        refine hR.mono ?_
        rintro e W3 ⟨rfl, j3, o3⟩
        have n3 := n2.oth o3
        gi_wp2
        go_roundw
        case rel => exact ⟨k + 1, by omega, by go_num, n3, by rw [ET.out]; simpa [EN.out] using j3⟩
        case measure => simp [intOf]; omega
    · have hek : k = ns.length := by omega
      subst hek
      rw [List.take_length] at hJ
      gi_wp2
      go_end0
      exact ⟨⟨_, rfl⟩, hJ⟩
/-- wal.Numbers -/
theorem wnumbers_of {K : Nat → Prop} {w : World} {p : Nat} {G : Gh} {m : Fs.Dsk} (h : IsDisk K w p G m) (hv : Vars w) {L M : List Nat} (hL : (Fs.list m).filterMap Wl.number = L) (hS : SortsTo L M) :
    Calls Tryz.prog 30 #[.pointer (some ⟨p, 0, none⟩)] w fun e w' => ∃ v, e = .returned v ∧ w'.ownsRow w.heap.size 30 1 v L.length (ncells M) ∧ Kept w w' := by
  have HS := Lib.hid (sorted_any (recv := .agg #[.pointer (some ⟨p, 0, none⟩)]) (enters_of Tryz.func66 (by kernel_rfl) rfl) L M hv hS (fun l J W k hT h0 => by have := numbers_gives h l J W k hT h0; rwa [hL] at this))
  clear h
  go_enter Tryz.func30, Tryz.ntmps30
  go_wp2_with fail
  refine HS.out.mono ?_
  rintro e w' ⟨v, rfl, hr, hk⟩
  go_wp2_with fail
  go_ret
  exact ⟨v, rfl, hr, hk⟩
/-- on a disk of one log -/
theorem wnumbers_one {K : Nat → Prop} {w : World} {p n : Nat} {G : Gh} {m : Fs.Dsk} (h : IsDisk K w p G m) (hv : Vars w) (hn : n ≤ 1099511627776) (hL : Fs.list m = [Wl.nm n]) :
    Calls Tryz.prog 30 #[.pointer (some ⟨p, 0, none⟩)] w fun e w' => ∃ b c, e = .returned (.slice (some ⟨b, 0, none⟩) 1 c) ∧ w'.cell? ⟨b, 0, none⟩ = some (.int .u64 n) ∧ Kept w w' := by
  have hc := wnumbers_of h hv (L := [n]) (M := [n]) (by rw [hL]; simp [Wl.number_nm hn]) (sorts_one n)
  refine hc.mono fun e w' ⟨v, he, hr, hk⟩ => ?_
  rcases hr.2 with ⟨_, e0⟩ | ⟨g, cap, cur, rfl, hbase, hb, _, _, _, htk⟩
  · simp at e0
  · refine ⟨g, cap, he, cell_of hb 0 ?_, hk⟩
    have h1 : (cur.toList.take 1)[0]? = some (.int .u64 (n : Int)) := by
      have e1 : cur.toList.take ([n].length * 1) = ncells [n] := htk
      simp only [List.length_cons, List.length_nil, Nat.zero_add, Nat.mul_one] at e1
      rw [e1]; rfl
    rw [List.getElem?_take] at h1
    simpa using h1
end Go.Proofs.YtlkcdcpdccmodaaGreatDoor
