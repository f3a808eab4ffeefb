/-
  What Create, Rename and Remove of package fs do with a disk.
-/
import Derived.Test.YtlkcdcpdccmodaaGreatDoorFsChange
namespace Go.Proofs.YtlkcdcpdccmodaaGreatDoor
open Go.ChangeShapes Go.WideShapes Go.ChangeAt Go.RowKit Go.Maps
set_option linter.unusedVariables false
set_option maxRecDepth 100000
set_option maxHeartbeats 400000

theorem bs_self' (s : ByteArray) : bs s.data.toList = s := (bs_of rfl).symm
theorem pendCells_congr {loc loc' : Nat → Nat} {l : List Fs.Chg} (h : ∀ c ∈ l, ∀ i, c.made = some i → loc' i = loc i) : pendCells loc' l = pendCells loc l := by
  unfold pendCells
  induction l with
  | nil => rfl
  | cons c r ih =>
    rw [List.flatMap_cons, List.flatMap_cons, ih (fun c hc => h c (List.mem_cons_of_mem _ hc))]
    congr 1
    unfold chgCells
    cases e : c.made with
    | none => rfl
    | some i => rw [ptrV_some, ptrV_some, h c List.mem_cons_self i e]
theorem okAll_made {n : Nat} : ∀ {d : Fs.Dir} {l : List Fs.Chg}, Fs.OkAll n d l → ∀ c ∈ l, ∀ i, c.made = some i → i < n
  | _, [], _, c, hc, _, _ => by cases hc
  | d, c0 :: l, h, c, hc, i, e => by
    rcases List.mem_cons.1 hc with rfl | hc'
    · by_cases h1 : c.frm = []
      · obtain ⟨j, hj, e', _⟩ := h.2.1.make h1
        rw [e] at e'; cases e'; exact hj
      · rw [(h.2.1.has h1).1] at e; cases e
    · exact okAll_made h.2.2 c hc' i e
/-- a file more, of which nobody knows yet -/
theorem IsDisk.more {K : Nat → Prop} {w : World} {p : Nat} {G : Gh} {m : Fs.Dsk} (h : IsDisk K w p G m) :
    IsDisk K (w.alloc (fileObj (.slice none 0 0) 0)) p { G with loc := upd G.loc m.files.length w.heap.size, rv := upd G.rv m.files.length (.slice none 0 0) } { m with files := m.files ++ [Fs.noFile] } := by
  have hk : Kept w (w.alloc (fileObj (.slice none 0 0) 0)) := (Kept.refl w).alloc _
  have h' := h.kept hk
  have hlen : ({ m with files := m.files ++ [Fs.noFile] } : Fs.Dsk).files.length = m.files.length + 1 := by simp
  have lo : ∀ i, i < m.files.length → upd G.loc m.files.length w.heap.size i = G.loc i := fun i hi => upd_other _ _ (by omega)
  have ro : ∀ i, i < m.files.length → upd G.rv m.files.length (.slice none 0 0) i = G.rv i := fun i hi => upd_other _ _ (by omega)
  have fo : ∀ i, i < m.files.length → Fs.fileAt { m with files := m.files ++ [Fs.noFile] } i = Fs.fileAt m i := fun i hi => by
    unfold Fs.fileAt
    show ((m.files ++ [Fs.noFile])[i]?).getD _ = _
    rw [List.getElem?_append_left hi]
  have fn : Fs.fileAt { m with files := m.files ++ [Fs.noFile] } m.files.length = Fs.noFile := by
    unfold Fs.fileAt
    show ((m.files ++ [Fs.noFile])[m.files.length]?).getD _ = _
    simp
  have hd := h.good.dir
  have hsd := Fs.okAll_dir h.good.all
  exact
  { good := h.good.more
    blk := h'.blk
    names := h'.names.congr (fun q hq => lo _ (hd.each q hq).2)
    sure := h'.sure.congr (fun q hq => lo _ (hsd.each q hq).2)
    pend := by
      show (w.alloc _).ownsRow 0 91 3 G.pv m.pend.length (pendCells (upd G.loc m.files.length w.heap.size) m.pend)
      rw [pendCells_congr (fun c hc i e => lo i (okAll_made h.good.all c hc i e))]
      exact h'.pend
    files := fun i hi => by
      rw [hlen] at hi
      by_cases e : i = m.files.length
      · subst e
        show FileIn K _ (upd G.loc m.files.length w.heap.size m.files.length) (upd G.rv m.files.length (.slice none 0 0) m.files.length) _
        rw [upd_same, upd_same, fn]
        exact ⟨heap_alloc_new w _, World.ownsRow_nil _ _ _ _, fun hk' => Nat.lt_irrefl _ (h.lt _ hk'), fun r hr => by cases hr⟩
      · have hi' : i < m.files.length := by omega
        show FileIn K _ (upd G.loc m.files.length w.heap.size i) (upd G.rv m.files.length (.slice none 0 0) i) _
        rw [lo i hi', ro i hi', fo i hi']
        exact h'.files i hi'
    inj := fun i j hi hj e => by
      rw [hlen] at hi hj
      have e' : upd G.loc m.files.length w.heap.size i = upd G.loc m.files.length w.heap.size j := e
      by_cases ei : i = m.files.length <;> by_cases ej : j = m.files.length
      · omega
      · rw [ei, upd_same, lo j (by omega)] at e'
        have := heap_lt (h.files j (by omega)).blk; omega
      · rw [ej, upd_same, lo i (by omega)] at e'
        have := heap_lt (h.files i (by omega)).blk; omega
      · rw [lo i (by omega), lo j (by omega)] at e'
        exact h.inj i j (by omega) (by omega) e'
    rows := fun i j r hi hj h1 h2 => by
      rw [hlen] at hi hj
      have h1' : (upd G.rv m.files.length (.slice none 0 0) i).ownBlock = some r := h1
      have h2' : (upd G.rv m.files.length (.slice none 0 0) j).ownBlock = some r := h2
      by_cases ei : i = m.files.length <;> by_cases ej : j = m.files.length
      · omega
      · rw [ei, upd_same] at h1'; cases h1'
      · rw [ej, upd_same] at h2'; cases h2'
      · rw [ro i (by omega)] at h1'
        rw [ro j (by omega)] at h2'
        exact h.rows i j r (by omega) (by omega) h1' h2'
    ne := h.ne
    np := h.np
    nbn := h.nbn
    nbs := h.nbs
    npv := h.npv
    lt := h'.lt }
theorem create_any {K : Nat → Prop} {w : World} {p : Nat} {G : Gh} {m : Fs.Dsk} (h : IsDisk K w p G m) (s : ByteArray) (hs : s.size ≤ maxLen) (hp : m.pend.length < 1099511627776) :
    Calls Tryz.prog 48 #[.pointer (some ⟨p, 0, none⟩), .string s] w (DkRet K w p (Fs.create m s.data.toList)) := by
  obtain ⟨c0, c1, c2, c3, c4, c5⟩ := h.cells
  have hmay := may_any s w hs
  have hhas := has_any h s hs
  have hle : (Builtin.len_ #[72] 3 #[.map (some G.bn)]).run Tryz.prog w = .ok (.int .i64 m.names.length) w := len_dir h.names _
  have hfew := h.good.dir.few
  unfold Fs.create
  by_cases h1 : Fs.may s.data.toList = false
  · rw [if_pos h1]
    rw [h1] at hmay
    clear h1
    go_enter Tryz.func48, Tryz.ntmps48
    go_wp2_with (go_at_call 79; refine hmay.mono ?_; rintro e w' ⟨rfl, rfl⟩)
    go_ret
    exact ⟨rfl, ⟨G, h⟩, Kp.refl _ _⟩
  · rw [if_neg h1]
    rw [Bool.not_eq_false] at h1
    rw [h1] at hmay
    by_cases h2 : (Fs.dget m.names s.data.toList).isSome = true
    · rw [if_pos h2]
      rw [h2] at hhas
      clear h1 h2
      go_enter Tryz.func48, Tryz.ntmps48
      go_wp2_with (first | (go_at_call 79; refine hmay.mono ?_; rintro e w' ⟨rfl, rfl⟩) | (go_at_call 80; refine hhas.mono ?_; rintro e w' ⟨rfl, rfl⟩))
      go_ret
      exact ⟨rfl, ⟨G, h⟩, Kp.refl _ _⟩
    · rw [if_neg h2]
      rw [Bool.not_eq_true] at h2
      rw [h2] at hhas
      clear h2
      by_cases h3 : 60 ≤ m.names.length
      · rw [if_pos h3]
        have H1 := Lib.hid h1; clear h1
        go_enter Tryz.func48, Tryz.ntmps48
        go_wp2_with (first | (go_at_call 79; refine hmay.mono ?_; rintro e w' ⟨rfl, rfl⟩) | (go_at_call 80; refine hhas.mono ?_; rintro e w' ⟨rfl, rfl⟩) | (at_len; refine wpList_len_own _ rfl _ 72 rfl 9 88 Tryz.underlying72 _ G.bn _ _ rfl h.names ?_; rw [toD_size]))
        go_ret
        exact ⟨rfl, ⟨G, h⟩, Kp.refl _ _⟩
      · rw [if_neg h3]
        have hcc := change_any h.more (Fs.create_chg h.good h1) (Fs.create_len h1 (by omega)) hp
        have hcv : chgV (upd G.loc m.files.length w.heap.size) ⟨[], s.data.toList, some m.files.length⟩ = .agg #[.string ⟨#[]⟩, .string s, .pointer (some ⟨w.heap.size, 0, none⟩)] := by
          unfold chgV; rw [bs_self', ptrV_some, upd_same]; rfl
        rw [hcv] at hcc
        have HCV := Lib.hid hcv; clear hcv
        have H1 := Lib.hid h1; clear h1
        unfold fileObj at hcc
        go_enter Tryz.func48, Tryz.ntmps48
        go_wp2_with (first | (go_at_call 79; refine hmay.mono ?_; rintro e w' ⟨rfl, rfl⟩) | (go_at_call 80; refine hhas.mono ?_; rintro e w' ⟨rfl, rfl⟩) | (at_len; refine wpList_len_own _ rfl _ 72 rfl 9 88 Tryz.underlying72 _ G.bn _ _ rfl h.names ?_; rw [toD_size]) | (go_at_call 81; refine hcc.mono ?_; rintro e w1 ⟨rfl, d1, k1⟩))
        go_ret
        exact ⟨rfl, d1, (kp_kept ((Kept.refl w).alloc _) h.lt).trans k1⟩
theorem remove_any {K : Nat → Prop} {w : World} {p : Nat} {G : Gh} {m : Fs.Dsk} (h : IsDisk K w p G m) (s : ByteArray) (hs : s.size ≤ maxLen) (hp : m.pend.length < 1099511627776) :
    Calls Tryz.prog 52 #[.pointer (some ⟨p, 0, none⟩), .string s] w (DkRet K w p (Fs.remove m s.data.toList)) := by
  have hhas := has_any h s hs
  have hfew := h.good.dir.few
  unfold Fs.remove
  by_cases h2 : (Fs.dget m.names s.data.toList).isSome = false
  · rw [if_pos h2]
    rw [h2] at hhas
    clear h2
    go_enter Tryz.func52, Tryz.ntmps52
    go_wp2_with (go_at_call 80; refine hhas.mono ?_; rintro e w' ⟨rfl, rfl⟩)
    go_ret
    exact ⟨rfl, ⟨G, h⟩, Kp.refl _ _⟩
  · rw [if_neg h2]
    rw [Bool.not_eq_false] at h2
    rw [h2] at hhas
    have hck := Fs.remove_chg h.good h2
    have hln : (Fs.apply ⟨s.data.toList, [], none⟩ m.names).length ≤ 60 := Nat.le_trans (Fs.apply_len hck (Fs.has_ne h.good h2)) hfew
    have hcc := change_any h hck hln hp
    have hcv : chgV G.loc ⟨s.data.toList, [], none⟩ = .agg #[.string s, .string ⟨#[]⟩, .pointer none] := by
      unfold chgV; rw [bs_self', ptrV_none]; rfl
    rw [hcv] at hcc
    clear hcv h2 hck
    go_enter Tryz.func52, Tryz.ntmps52
    go_wp2_with (first | (go_at_call 80; refine hhas.mono ?_; rintro e w' ⟨rfl, rfl⟩) | (go_at_call 81; refine hcc.mono ?_; rintro e w1 ⟨rfl, d1, k1⟩))
    go_ret
    exact ⟨rfl, d1, k1⟩
end Go.Proofs.YtlkcdcpdccmodaaGreatDoor
