/-
  The plain mathematics of a disk of which a crash loses what wasn't sure: directories as rising lists, files by numbers, what each method answers and leaves, and what stays true. No program.
-/
import Derived.WalkKit
import Derived.WideShapes
import Derived.WideAt
namespace Go.Proofs.YtlkcdcpdccmodaaGreatDoor
open Go.RowKit Go.WideShapes
set_option linter.unusedVariables false
set_option maxRecDepth 100000
namespace Fs
abbrev Nm := List UInt8
abbrev Dir := List (Nm × Nat)
def dget (d : Dir) (k : Nm) : Option Nat := (d.find? (fun p => p.1 == k)).map (·.2)
def ddel (d : Dir) (k : Nm) : Dir := d.filter (fun p => !(p.1 == k))
def ins (x : Nm × Nat) : Dir → Dir
  | [] => [x]
  | y :: r => if bytesBefore x.1 y.1 then x :: y :: r else y :: ins x r
def dput (d : Dir) (k : Nm) (i : Nat) : Dir := ins (k, i) (ddel d k)
structure File where
  bytes : List UInt8
  sure : Nat
def noFile : File := ⟨[], 0⟩
structure Chg where
  frm : Nm
  to : Nm
  made : Option Nat
structure Dsk where
  files : List File
  names : Dir
  sure : Dir
  pend : List Chg
  quota : Int
  fuse : Int
  dead : Bool
def new : Dsk := ⟨[], [], [], [], 1048576, -1, false⟩
def fileAt (m : Dsk) (i : Nat) : File := (m.files[i]?).getD noFile
def stand (c : UInt8) : Bool := (decide (97 ≤ c) && decide (c ≤ 122)) || (decide (48 ≤ c) && decide (c ≤ 57)) || c == 46
def may (s : Nm) : Bool := decide (1 ≤ s.length) && decide (s.length ≤ 20) && s.all stand
def within (n last : Int) : Int := min (max n 0) last
def burn (m : Dsk) : Dsk × Int :=
  if m.dead || m.fuse == 0 then ({ m with dead := true }, 30)
  else if 0 < m.fuse then ({ m with fuse := m.fuse - 1 }, 0) else (m, 0)
def apply (c : Chg) (d : Dir) : Dir :=
  let f := if c.frm = [] then c.made else dget d c.frm
  let d1 := if c.frm = [] then d else ddel d c.frm
  if c.to = [] then d1 else match f with | some i => dput d1 c.to i | none => d1
def applyAll (d : Dir) (l : List Chg) : Dir := l.foldl (fun d c => apply c d) d
def change (m : Dsk) (c : Chg) : Dsk × Int :=
  if (burn m).2 = 0 then ({ (burn m).1 with names := apply c m.names, pend := m.pend ++ [c] }, 0) else burn m
def create (m : Dsk) (s : Nm) : Dsk × Int :=
  if may s = false then (m, 20) else if (dget m.names s).isSome then (m, 11) else if 60 ≤ m.names.length then (m, 4)
  else change { m with files := m.files ++ [noFile] } ⟨[], s, some m.files.length⟩
def size (m : Dsk) : Nat := (m.names.map (fun p => (fileAt m p.2).bytes.length)).sum
def grow (b : List UInt8) (f : File) : File := ⟨f.bytes ++ b, f.sure⟩
def append (m : Dsk) (s b : Nm) : Dsk × Int :=
  match dget m.names s with
  | none => (m, 10)
  | some i => if m.quota < size m + b.length then (m, 12) else if (burn m).2 = 0 then ({ (burn m).1 with files := m.files.modify i (grow b) }, 0) else burn m
def mkSure (f : File) : File := ⟨f.bytes, f.bytes.length⟩
def sync (m : Dsk) (s : Nm) : Dsk × Int :=
  match dget m.names s with
  | none => (m, 10)
  | some i => if (burn m).2 = 0 then ({ (burn m).1 with files := m.files.modify i mkSure }, 0) else burn m
def rename (m : Dsk) (a b : Nm) : Dsk × Int :=
  if (dget m.names a).isSome = false then (m, 10) else if may b = false then (m, 20) else change m ⟨a, b, none⟩
def remove (m : Dsk) (s : Nm) : Dsk × Int :=
  if (dget m.names s).isSome = false then (m, 10) else change m ⟨s, [], none⟩
def syncDir (m : Dsk) : Dsk × Int :=
  if (burn m).2 = 0 then ({ (burn m).1 with sure := m.names, pend := [] }, 0) else burn m
def read (m : Dsk) (s : Nm) : List UInt8 × Int :=
  match dget m.names s with
  | none => ([], 10)
  | some i => ((fileAt m i).bytes, 0)
def list (m : Dsk) : List Nm := m.names.map (·.1)
def quota (m : Dsk) (n : Int) : Dsk := { m with quota := max n 0 }
def fuse (m : Dsk) (n : Int) : Dsk := if m.dead then m else { m with fuse := max n (-1) }
def cut (more : Int) (f : File) : File :=
  ⟨f.bytes.take (f.sure + (within more ((f.bytes.length : Int) - f.sure)).toNat), f.sure + (within more ((f.bytes.length : Int) - f.sure)).toNat⟩
def cutsN (kept : Dir) (keep : List Int) (fs : List File) : Nat → List File
  | 0 => fs
  | k + 1 => match kept[k]? with
    | none => cutsN kept keep fs k
    | some p => (cutsN kept keep fs k).modify p.2 (cut ((keep[k]?).getD 0))
def keptOf (m : Dsk) (n : Int) : Dir := applyAll m.sure (m.pend.take (within n m.pend.length).toNat)
def crash (m : Dsk) (n : Int) (keep : List Int) : Dsk :=
  ⟨cutsN (keptOf m n) keep m.files (keptOf m n).length, keptOf m n, keptOf m n, [], m.quota, -1, false⟩
def looseF (f : File) : Nat := f.bytes.length - f.sure
def loose (m : Dsk) : Nat := (m.names.map (fun p => looseF (fileAt m p.2))).sum

/-! what stays true -/
def Rise (d : Dir) : Prop := d.Pairwise (fun p q => bytesBefore p.1 q.1 = true)
structure DirOk (n : Nat) (d : Dir) : Prop where
  rise : Rise d
  few : d.length ≤ 60
  each : ∀ p ∈ d, may p.1 = true ∧ p.2 < n
  inj : ∀ p ∈ d, ∀ q ∈ d, p.2 = q.2 → p = q
structure ChgOk (n : Nat) (c : Chg) (d : Dir) : Prop where
  make : c.frm = [] → ∃ i, i < n ∧ c.made = some i ∧ ∀ p ∈ d, p.2 ≠ i
  has : c.frm ≠ [] → c.made = none ∧ ∃ i, dget d c.frm = some i
  to : c.to = [] ∨ may c.to = true
  frm : c.frm.length ≤ 20
def OkAll (n : Nat) : Dir → List Chg → Prop
  | d, [] => DirOk n d
  | d, c :: cs => DirOk n d ∧ ChgOk n c d ∧ OkAll n (apply c d) cs
def tot (fs : List File) : Nat := (fs.map (fun f => f.bytes.length)).sum
structure Good (m : Dsk) : Prop where
  all : OkAll m.files.length m.sure m.pend
  names : m.names = applyAll m.sure m.pend
  files : ∀ f ∈ m.files, f.sure ≤ f.bytes.length
  tot : tot m.files ≤ 1099511627776
  pend : m.pend.length ≤ 1099511627776
  q0 : 0 ≤ m.quota
  q1 : m.quota ≤ 9223372036854775807
  f0 : -1 ≤ m.fuse
  f1 : m.fuse ≤ 9223372036854775807

/-! directories -/
theorem ins_perm (x : Nm × Nat) : ∀ d : Dir, (ins x d).Perm (x :: d)
  | [] => List.Perm.refl _
  | y :: r => by
    unfold ins
    split
    · exact List.Perm.refl _
    · exact ((ins_perm x r).cons y).trans (List.Perm.swap x y r)
theorem ins_len (x : Nm × Nat) (d : Dir) : (ins x d).length = d.length + 1 := by rw [(ins_perm x d).length_eq]; rfl
theorem mem_ins {x y : Nm × Nat} {d : Dir} : y ∈ ins x d ↔ y = x ∨ y ∈ d := by rw [(ins_perm x d).mem_iff, List.mem_cons]
theorem rise_ins (x : Nm × Nat) : ∀ d : Dir, Rise d → (∀ p ∈ d, p.1 ≠ x.1) → Rise (ins x d)
  | [], _, _ => by simp [ins, Rise]
  | y :: r, h, hne => by
    obtain ⟨h1, h2⟩ := List.pairwise_cons.1 h
    unfold ins
    split
    · rename_i hb
      exact List.pairwise_cons.2 ⟨fun p hp => by rcases List.mem_cons.1 hp with rfl | hp'; exact hb; exact bytes_trans _ _ _ hb (h1 p hp'), h⟩
    · rename_i hb
      refine List.pairwise_cons.2 ⟨fun p hp => ?_, rise_ins x r h2 (fun p hp => hne p (List.mem_cons_of_mem _ hp))⟩
      rcases mem_ins.1 hp with rfl | hp'
      · rcases WideAt.bytes_total p.1 y.1 (fun e => hne y List.mem_cons_self e.symm) with h3 | h3
        · exact absurd h3 hb
        · exact h3
      · exact h1 p hp'
theorem rise_del {d : Dir} (h : Rise d) (k : Nm) : Rise (ddel d k) := h.filter _
theorem mem_del {d : Dir} {k : Nm} {p : Nm × Nat} : p ∈ ddel d k ↔ p ∈ d ∧ p.1 ≠ k := by simp [ddel]
theorem rise_put {d : Dir} (h : Rise d) (k : Nm) (i : Nat) : Rise (dput d k i) := rise_ins _ _ (rise_del h k) (fun p hp => (mem_del.1 hp).2)
theorem mem_put {d : Dir} {k : Nm} {i : Nat} {p : Nm × Nat} : p ∈ dput d k i ↔ p = (k, i) ∨ (p ∈ d ∧ p.1 ≠ k) := by rw [dput, mem_ins, mem_del]
theorem rise_ne {d : Dir} (h : Rise d) : d.Pairwise (fun p q => p.1 ≠ q.1) := h.imp fun {a b} hb e => by rw [e, WideAt.bytes_irrefl] at hb; cases hb
theorem rise_key {d : Dir} (h : Rise d) {p q : Nm × Nat} (hp : p ∈ d) (hq : q ∈ d) (e : p.1 = q.1) : p = q := by
  induction d with
  | nil => cases hp
  | cons y r ih =>
    obtain ⟨h1, h2⟩ := List.pairwise_cons.1 (rise_ne h)
    rcases List.mem_cons.1 hp with rfl | hp' <;> rcases List.mem_cons.1 hq with rfl | hq'
    · rfl
    · exact absurd e (h1 q hq')
    · exact absurd e.symm (h1 p hp')
    · exact ih (List.pairwise_cons.1 h).2 hp' hq'
theorem dget_mem {d : Dir} {k : Nm} {i : Nat} (h : dget d k = some i) : (k, i) ∈ d := by
  unfold dget at h
  cases hf : d.find? (fun p => p.1 == k) with
  | none => rw [hf] at h; cases h
  | some p =>
    rw [hf] at h
    have hm := List.mem_of_find?_eq_some hf
    have hk := List.find?_some hf
    simp at hk h
    rw [← hk, ← h]; exact hm
theorem dget_none {d : Dir} {k : Nm} (h : dget d k = none) : ∀ p ∈ d, p.1 ≠ k := by
  unfold dget at h
  simp at h
  exact fun p hp e => h p.1 p.2 hp e
theorem dget_of_mem {d : Dir} (hr : Rise d) {k : Nm} {i : Nat} (h : (k, i) ∈ d) : dget d k = some i := by
  cases hg : dget d k with
  | none => exact absurd rfl (dget_none hg _ h)
  | some j =>
    have := rise_key hr (dget_mem hg) h rfl
    simp at this; rw [this]
theorem dget_iff {d : Dir} (hr : Rise d) {k : Nm} {i : Nat} : dget d k = some i ↔ (k, i) ∈ d := ⟨dget_mem, dget_of_mem hr⟩
theorem dget_put_same {d : Dir} (hr : Rise d) (k : Nm) (i : Nat) : dget (dput d k i) k = some i := dget_of_mem (rise_put hr k i) (mem_put.2 (.inl rfl))
theorem dget_ext {d d' : Dir} (hr : Rise d) (hr' : Rise d') {k : Nm} (h : ∀ i, (k, i) ∈ d ↔ (k, i) ∈ d') : dget d k = dget d' k := by
  cases hg : dget d k with
  | none =>
    cases hg' : dget d' k with
    | none => rfl
    | some j => exact absurd rfl (dget_none hg _ ((h j).2 (dget_mem hg')))
  | some j => exact (dget_of_mem hr' ((h j).1 (dget_mem hg))).symm
theorem dget_put_other {d : Dir} (hr : Rise d) {k k' : Nm} (hne : k' ≠ k) (i : Nat) : dget (dput d k i) k' = dget d k' :=
  dget_ext (rise_put hr k i) hr (fun j => by rw [mem_put]; simp [hne])
theorem dget_del_same {d : Dir} (k : Nm) : dget (ddel d k) k = none := by
  cases hg : dget (ddel d k) k with
  | none => rfl
  | some j => exact absurd rfl (mem_del.1 (dget_mem hg)).2
theorem dget_del_other {d : Dir} (hr : Rise d) {k k' : Nm} (hne : k' ≠ k) : dget (ddel d k) k' = dget d k' :=
  dget_ext (rise_del hr k) hr (fun j => by rw [mem_del]; simp [hne])
theorem del_len {d : Dir} (k : Nm) : (ddel d k).length ≤ d.length := List.length_filter_le _ _
theorem del_len_has {d : Dir} {k : Nm} {i : Nat} (h : dget d k = some i) : (ddel d k).length + 1 ≤ d.length := by
  have hm := dget_mem h
  have : (ddel d k).length < d.length := by
    refine List.length_filter_lt_length_iff_exists.2 ⟨_, hm, by simp⟩
  omega
theorem put_len (d : Dir) (k : Nm) (i : Nat) : (dput d k i).length ≤ d.length + 1 := by
  rw [dput, ins_len]; have := del_len (d := d) k; omega
theorem may_ne {s : Nm} (h : may s = true) : s ≠ [] := by rintro rfl; simp [may] at h
theorem may_le {s : Nm} (h : may s = true) : 1 ≤ s.length ∧ s.length ≤ 20 := by simp [may] at h; omega
theorem dirOk_mono {n n' : Nat} {d : Dir} (h : DirOk n d) (hn : n ≤ n') : DirOk n' d := ⟨h.rise, h.few, fun p hp => ⟨(h.each p hp).1, by have := (h.each p hp).2; omega⟩, h.inj⟩
theorem okAll_dir {n : Nat} : ∀ {d : Dir} {l : List Chg}, OkAll n d l → DirOk n d
  | _, [], h => h
  | _, _ :: _, h => h.1
theorem okAll_end {n : Nat} : ∀ {d : Dir} {l : List Chg}, OkAll n d l → DirOk n (applyAll d l)
  | _, [], h => h
  | d, c :: l, h => okAll_end (d := apply c d) (l := l) h.2.2
theorem okAll_take {n : Nat} : ∀ {d : Dir} {l : List Chg} (k : Nat), OkAll n d l → OkAll n d (l.take k)
  | _, [], _, h => by simpa using h
  | _, _ :: _, 0, h => h.1
  | _, _ :: _, k + 1, h => ⟨h.1, h.2.1, okAll_take k h.2.2⟩
theorem okAll_snoc {n : Nat} : ∀ {d : Dir} {l : List Chg} {c : Chg}, OkAll n d l → ChgOk n c (applyAll d l) → DirOk n (apply c (applyAll d l)) → OkAll n d (l ++ [c])
  | _, [], _, h, hc, hd => ⟨h, hc, hd⟩
  | _, _ :: _, _, h, hc, hd => ⟨h.1, h.2.1, okAll_snoc h.2.2 hc hd⟩
theorem chgOk_mono {n n' : Nat} {c : Chg} {d : Dir} (h : ChgOk n c d) (hn : n ≤ n') : ChgOk n' c d :=
  ⟨fun e => by obtain ⟨i, hi, e'⟩ := h.make e; exact ⟨i, by omega, e'⟩, h.has, h.to, h.frm⟩
theorem okAll_mono {n n' : Nat} (hn : n ≤ n') : ∀ {d : Dir} {l : List Chg}, OkAll n d l → OkAll n' d l
  | _, [], h => dirOk_mono h hn
  | _, _ :: _, h => ⟨dirOk_mono h.1 hn, chgOk_mono h.2.1 hn, okAll_mono hn h.2.2⟩
/-- the change at place k is right where it is applied -/
theorem okAll_get {n : Nat} : ∀ {d : Dir} {l : List Chg} {k : Nat} {c : Chg}, OkAll n d l → l[k]? = some c → ChgOk n c (applyAll d (l.take k))
  | _, [], _, _, _, e => by simp at e
  | _, c0 :: _, 0, c, h, e => by simp at e; subst e; exact h.2.1
  | d, c0 :: l, k + 1, c, h, e => okAll_get (d := apply c0 d) (l := l) (k := k) h.2.2 (by simpa using e)
theorem applyAll_snoc (d : Dir) (l : List Chg) (c : Chg) : applyAll d (l ++ [c]) = apply c (applyAll d l) := by simp [applyAll]
theorem applyAll_take {d : Dir} {l : List Chg} {k : Nat} {c : Chg} (h : l[k]? = some c) : applyAll d (l.take (k + 1)) = apply c (applyAll d (l.take k)) := by
  rw [List.take_add_one, h]; simp [applyAll]
theorem apply_mk {n : Nat} {c : Chg} {d : Dir} {i : Nat} (h1 : c.frm = []) (h2 : c.to ≠ []) (h3 : c.made = some i) : apply c d = dput d c.to i := by
  unfold apply; simp [h1, h2, h3]
theorem apply_mv {c : Chg} {d : Dir} {i : Nat} (h1 : c.frm ≠ []) (h2 : c.to ≠ []) (h3 : dget d c.frm = some i) : apply c d = dput (ddel d c.frm) c.to i := by
  unfold apply; simp [h1, h2, h3]
theorem apply_rm {c : Chg} {d : Dir} (h1 : c.frm ≠ []) (h2 : c.to = []) : apply c d = ddel d c.frm := by
  unfold apply; simp [h1, h2]
theorem apply_none {c : Chg} {d : Dir} (h1 : c.frm = []) (h2 : c.to = []) : apply c d = d := by
  unfold apply; simp [h1, h2]
theorem apply_each {n : Nat} {c : Chg} {d : Dir} (hd : DirOk n d) (hc : ChgOk n c d) (hl : (apply c d).length ≤ 60) : DirOk n (apply c d) := by
  by_cases h1 : c.frm = [] <;> by_cases h2 : c.to = []
  · rw [apply_none h1 h2]; exact hd
  · obtain ⟨i, hi, e, hf⟩ := hc.make h1
    rw [apply_mk (n := n) h1 h2 e] at hl ⊢
    refine ⟨rise_put hd.rise _ _, hl, fun p hp => ?_, fun p hp q hq e => ?_⟩
    · rcases mem_put.1 hp with rfl | ⟨h, _⟩
      · exact ⟨hc.to.resolve_left h2, hi⟩
      · exact hd.each p h
    · rcases mem_put.1 hp with rfl | ⟨h, _⟩ <;> rcases mem_put.1 hq with rfl | ⟨h', _⟩
      · rfl
      · exact absurd e.symm (hf q h')
      · exact absurd e (hf p h)
      · exact hd.inj p h q h' e
  · rw [apply_rm h1 h2] at hl ⊢
    exact ⟨rise_del hd.rise _, hl, fun p hp => hd.each p (mem_del.1 hp).1, fun p hp q hq e => hd.inj p (mem_del.1 hp).1 q (mem_del.1 hq).1 e⟩
  · obtain ⟨_, i, e⟩ := hc.has h1
    rw [apply_mv h1 h2 e] at hl ⊢
    refine ⟨rise_put (rise_del hd.rise _) _ _, hl, fun p hp => ?_, fun p hp q hq e' => ?_⟩
    · rcases mem_put.1 hp with rfl | ⟨h, _⟩
      · exact ⟨hc.to.resolve_left h2, (hd.each _ (dget_mem e)).2⟩
      · exact hd.each p (mem_del.1 h).1
    · rcases mem_put.1 hp with rfl | ⟨h, _⟩ <;> rcases mem_put.1 hq with rfl | ⟨h', _⟩
      · rfl
      · exact absurd (by rw [← hd.inj _ (dget_mem e) q (mem_del.1 h').1 e']) (mem_del.1 h').2
      · exact absurd (by rw [← hd.inj _ (dget_mem e) p (mem_del.1 h).1 e'.symm]) (mem_del.1 h).2
      · exact hd.inj p (mem_del.1 h).1 q (mem_del.1 h').1 e'
theorem apply_len {n : Nat} {c : Chg} {d : Dir} (hc : ChgOk n c d) (h1 : c.frm ≠ []) : (apply c d).length ≤ d.length := by
  by_cases h2 : c.to = []
  · rw [apply_rm h1 h2]; exact del_len _
  · obtain ⟨_, i, e⟩ := hc.has h1
    rw [apply_mv h1 h2 e]
    have := put_len (ddel d c.frm) c.to i
    have := del_len_has e
    omega
theorem Good.dir {m : Dsk} (h : Good m) : DirOk m.files.length m.names := by rw [h.names]; exact okAll_end h.all
/-! files -/
theorem getD_le_tot : ∀ (fs : List File) (i : Nat) (f : File), fs[i]? = some f → f.bytes.length ≤ tot fs
  | [], _, _, h => by simp at h
  | g :: r, 0, f, h => by simp at h; subst h; simp [tot]
  | g :: r, i + 1, f, h => by
    have := getD_le_tot r i f (by simpa using h)
    simp [tot] at this ⊢; omega
theorem fileAt_len {m : Dsk} (h : Good m) (i : Nat) : (fileAt m i).bytes.length ≤ 1099511627776 := by
  unfold fileAt
  cases e : m.files[i]? with
  | none => simp [noFile]
  | some f => have := getD_le_tot _ _ _ e; have := h.tot; simp; omega
theorem fileAt_sure {m : Dsk} (h : Good m) (i : Nat) : (fileAt m i).sure ≤ (fileAt m i).bytes.length := by
  unfold fileAt
  cases e : m.files[i]? with
  | none => simp [noFile]
  | some f => exact h.files f (List.mem_of_getElem? e)
theorem sum_le {α : Type} (f : α → Nat) (B : Nat) : ∀ (l : List α), (∀ x ∈ l, f x ≤ B) → (l.map f).sum ≤ l.length * B
  | [], _ => by simp
  | x :: r, h => by
    have h1 := sum_le f B r (fun y hy => h y (List.mem_cons_of_mem _ hy))
    have h2 := h x List.mem_cons_self
    simp only [List.map_cons, List.sum_cons, List.length_cons, Nat.add_mul, Nat.one_mul]; omega
theorem size_le {m : Dsk} (h : Good m) : size m ≤ 65970697666560 := by
  have := sum_le (fun p => (fileAt m p.2).bytes.length) 1099511627776 m.names (fun p _ => fileAt_len h p.2)
  have hf := h.dir.few
  unfold size
  have : m.names.length * 1099511627776 ≤ 60 * 1099511627776 := Nat.mul_le_mul_right _ hf
  omega
theorem loose_le {m : Dsk} (h : Good m) : loose m ≤ 65970697666560 := by
  have := sum_le (fun p => looseF (fileAt m p.2)) 1099511627776 m.names (fun p _ => by have := fileAt_len h p.2; unfold looseF; omega)
  have hf := h.dir.few
  unfold loose
  have : m.names.length * 1099511627776 ≤ 60 * 1099511627776 := Nat.mul_le_mul_right _ hf
  omega
theorem good_new : Good new := ⟨⟨by simp [Rise, new], by simp [new], by simp [new], by simp [new]⟩, rfl, by simp [new], by simp [new, tot], by simp [new], by simp [new], by simp [new], by simp [new], by simp [new]⟩
/-! sums over what is no longer to come -/
def sumOf (f : Nat → Nat) (d : Dir) (left : Nm → Bool) : Nat := ((d.filter (fun p => !left p.1)).map (fun p => f p.2)).sum
theorem sumOf_le (f : Nat → Nat) (left : Nm → Bool) : ∀ d : Dir, sumOf f d left ≤ (d.map (fun p => f p.2)).sum
  | [] => by simp [sumOf]
  | y :: r => by
    have := sumOf_le f left r
    simp only [sumOf, List.filter_cons, List.map_cons, List.sum_cons] at this ⊢
    cases left y.1 <;> simp <;> omega
theorem sumOf_all (f : Nat → Nat) (d : Dir) (left : Nm → Bool) (h : ∀ k, left k = false) : sumOf f d left = (d.map (fun p => f p.2)).sum := by
  unfold sumOf; rw [List.filter_eq_self.2 (fun p _ => by rw [h]; rfl)]
theorem sumOf_none (f : Nat → Nat) (d : Dir) (left : Nm → Bool) (h : ∀ p ∈ d, left p.1 = true) : sumOf f d left = 0 := by
  unfold sumOf; rw [List.filter_eq_nil_iff.2 (fun p hp => by rw [h p hp]; decide)]; rfl
theorem sumOf_congr (f : Nat → Nat) (d : Dir) {l l' : Nm → Bool} (h : ∀ p ∈ d, l p.1 = l' p.1) : sumOf f d l = sumOf f d l' := by
  unfold sumOf; rw [List.filter_congr (fun p hp => by rw [h p hp])]
theorem sumOf_cons (f : Nat → Nat) (y : Nm × Nat) (r : Dir) (l : Nm → Bool) : sumOf f (y :: r) l = (if l y.1 then 0 else f y.2) + sumOf f r l := by
  unfold sumOf; cases h : l y.1 <;> simp [h]
theorem sumOf_step (f : Nat → Nat) {x : Nm} {i : Nat} {left : Nm → Bool} (hx : left x = true) : ∀ d : Dir, Rise d → (x, i) ∈ d → sumOf f d (fun k => left k && !(k == x)) = sumOf f d left + f i
  | [], _, hm => by cases hm
  | y :: r, hr, hm => by
    obtain ⟨h1, h2⟩ := List.pairwise_cons.1 hr
    by_cases e : y.1 = x
    · have ey : y = (x, i) := rise_key hr List.mem_cons_self hm e
      subst ey
      have hrest : sumOf f r (fun k => left k && !(k == x)) = sumOf f r left := sumOf_congr f r (fun p hp => by
        have hne : p.1 ≠ x := fun e' => by have := h1 p hp; rw [e', WideAt.bytes_irrefl] at this; cases this
        simp [hne])
      rw [sumOf_cons, sumOf_cons, hrest]
      simp [hx]; omega
    · have hm' : (x, i) ∈ r := by
        rcases List.mem_cons.1 hm with h | h
        · exact absurd (by rw [← h]) e
        · exact h
      have ih := sumOf_step f hx r h2 hm'
      have e' : (y.1 == x) = false := by simp [e]
      rw [sumOf_cons, sumOf_cons, ih]
      simp only [e', Bool.not_false, Bool.and_true]
      omega
/-! burning -/
theorem burn_files (m : Dsk) : (burn m).1.files = m.files ∧ (burn m).1.names = m.names ∧ (burn m).1.sure = m.sure ∧ (burn m).1.pend = m.pend ∧ (burn m).1.quota = m.quota := by
  unfold burn; split
  · exact ⟨rfl, rfl, rfl, rfl, rfl⟩
  · split <;> exact ⟨rfl, rfl, rfl, rfl, rfl⟩
theorem burn_res (m : Dsk) : ((burn m).2 = 0 ∧ m.dead = false ∧ (burn m).1.dead = false ∧ m.fuse ≠ 0) ∨ ((burn m).2 = 30 ∧ (burn m).1.dead = true ∧ (m.dead = true ∨ m.fuse = 0)) := by
  unfold burn; split
  · rename_i h; right; simp at h; exact ⟨rfl, rfl, h⟩
  · rename_i h; left; simp at h; split <;> exact ⟨rfl, h.1, h.1, h.2⟩
theorem burn_fuse {m : Dsk} (h0 : -1 ≤ m.fuse) (h1 : m.fuse ≤ 9223372036854775807) : -1 ≤ (burn m).1.fuse ∧ (burn m).1.fuse ≤ 9223372036854775807 := by
  unfold burn; split
  · exact ⟨h0, h1⟩
  · split
    · simp; omega
    · exact ⟨h0, h1⟩
theorem Good.burn {m : Dsk} (h : Good m) : Good (burn m).1 := by
  obtain ⟨e1, e2, e3, e4, e5⟩ := burn_files m
  obtain ⟨f0, f1⟩ := burn_fuse h.f0 h.f1
  exact ⟨by rw [e1, e3, e4]; exact h.all, by rw [e2, e3, e4]; exact h.names, by rw [e1]; exact h.files, by rw [e1]; exact h.tot, by rw [e4]; exact h.pend, by rw [e5]; exact h.q0, by rw [e5]; exact h.q1, f0, f1⟩
theorem Good.change {m : Dsk} (h : Good m) {c : Chg} (hc : ChgOk m.files.length c m.names) (hl : (apply c m.names).length ≤ 60) (hp : m.pend.length < 1099511627776) : Good (change m c).1 := by
  unfold Fs.change
  split
  · have hb := h.burn
    obtain ⟨e1, e2, e3, e4, e5⟩ := burn_files m
    have hd := apply_each h.dir hc hl
    refine ⟨?_, ?_, hb.files, hb.tot, by simp; omega, hb.q0, hb.q1, hb.f0, hb.f1⟩
    · show OkAll (Fs.burn m).1.files.length (Fs.burn m).1.sure (m.pend ++ [c])
      rw [e1, e3]
      rw [h.names] at hc hd
      exact okAll_snoc h.all hc hd
    · show apply c m.names = applyAll (Fs.burn m).1.sure (m.pend ++ [c])
      rw [applyAll_snoc, e3, h.names]
  · exact h.burn
theorem Good.more {m : Dsk} (h : Good m) : Good { m with files := m.files ++ [noFile] } := by
  refine ⟨okAll_mono (by simp) h.all, h.names, fun f hf => ?_, ?_, h.pend, h.q0, h.q1, h.f0, h.f1⟩
  · rcases List.mem_append.1 hf with h1 | h1
    · exact h.files f h1
    · simp at h1; subst h1; simp [noFile]
  · have := h.tot; simpa [Fs.tot, noFile] using this
theorem create_chg {m : Dsk} (h : Good m) {s : Nm} (hs : may s = true) : ChgOk (m.files ++ [noFile]).length ⟨[], s, some m.files.length⟩ m.names :=
  ⟨fun _ => ⟨_, by simp, rfl, fun p hp => by have := (h.dir.each p hp).2; omega⟩, fun e => absurd rfl e, .inr hs, by simp⟩
theorem create_len {m : Dsk} {s : Nm} (hs : may s = true) (hl : m.names.length < 60) : (apply ⟨[], s, some m.files.length⟩ m.names).length ≤ 60 := by
  rw [apply_mk (n := 0) rfl (may_ne hs) rfl]; have := put_len m.names s m.files.length; simp; omega
theorem Good.create {m : Dsk} (h : Good m) (s : Nm) (hp : m.pend.length < 1099511627776) : Good (create m s).1 := by
  unfold Fs.create
  split
  · exact h
  · rename_i hs; simp at hs
    split
    · exact h
    · split
      · exact h
      · rename_i hl
        exact h.more.change (create_chg h hs) (create_len hs (by omega)) hp
theorem rename_chg {m : Dsk} (h : Good m) {a b : Nm} (ha : (dget m.names a).isSome = true) (hb : may b = true) : ChgOk m.files.length ⟨a, b, none⟩ m.names := by
  obtain ⟨i, hi⟩ := Option.isSome_iff_exists.1 ha
  have hm := (h.dir.each _ (dget_mem hi)).1
  exact ⟨fun e => absurd e (may_ne hm), fun _ => ⟨rfl, i, hi⟩, .inr hb, (may_le hm).2⟩
theorem remove_chg {m : Dsk} (h : Good m) {a : Nm} (ha : (dget m.names a).isSome = true) : ChgOk m.files.length ⟨a, [], none⟩ m.names := by
  obtain ⟨i, hi⟩ := Option.isSome_iff_exists.1 ha
  have hm := (h.dir.each _ (dget_mem hi)).1
  exact ⟨fun e => absurd e (may_ne hm), fun _ => ⟨rfl, i, hi⟩, .inl rfl, (may_le hm).2⟩
theorem has_ne {m : Dsk} (h : Good m) {a : Nm} (ha : (dget m.names a).isSome = true) : a ≠ [] := by
  obtain ⟨i, hi⟩ := Option.isSome_iff_exists.1 ha
  exact may_ne (h.dir.each _ (dget_mem hi)).1
theorem Good.rename {m : Dsk} (h : Good m) (a b : Nm) (hp : m.pend.length < 1099511627776) : Good (rename m a b).1 := by
  unfold Fs.rename
  split
  · exact h
  · rename_i ha; rw [Bool.not_eq_false] at ha
    split
    · exact h
    · rename_i hb; simp at hb
      have hc := rename_chg h ha hb
      refine h.change hc ?_ hp
      have := apply_len hc (has_ne h ha)
      have := h.dir.few
      omega
theorem Good.remove {m : Dsk} (h : Good m) (a : Nm) (hp : m.pend.length < 1099511627776) : Good (remove m a).1 := by
  unfold Fs.remove
  split
  · exact h
  · rename_i ha; rw [Bool.not_eq_false] at ha
    have hc := remove_chg h (a := a) ha
    refine h.change hc ?_ hp
    have := apply_len hc (has_ne h ha)
    have := h.dir.few
    omega
theorem modify_len (fs : List File) (i : Nat) (g : File → File) : (fs.modify i g).length = fs.length := by simp
theorem mem_modify {fs : List File} {i : Nat} {g : File → File} {f : File} (h : f ∈ fs.modify i g) : f ∈ fs ∨ ∃ f0, fs[i]? = some f0 ∧ f = g f0 := by
  obtain ⟨j, hj⟩ := List.getElem?_of_mem h
  rw [List.getElem?_modify] at hj
  cases e : fs[j]? with
  | none => rw [e] at hj; simp at hj
  | some f0 =>
    rw [e] at hj
    by_cases hij : i = j
    · subst hij; simp at hj; exact .inr ⟨f0, e, hj.symm⟩
    · simp [hij] at hj; subst hj; exact .inl (List.mem_of_getElem? e)
theorem tot_modify : ∀ (fs : List File) (i : Nat) (g : File → File) (b : Nat), (∀ f, (g f).bytes.length ≤ f.bytes.length + b) → tot (fs.modify i g) ≤ tot fs + b
  | [], i, g, b, h => by simp [tot]
  | f :: r, 0, g, b, h => by have := h f; simp [tot]; omega
  | f :: r, i + 1, g, b, h => by have := tot_modify r i g b h; simp [tot] at this ⊢; omega
theorem Good.modify {m : Dsk} (h : Good m) (i : Nat) (g : File → File) (b : Nat) (hg : ∀ f, f.sure ≤ f.bytes.length → (g f).sure ≤ (g f).bytes.length) (hb : ∀ f, (g f).bytes.length ≤ f.bytes.length + b) (ht : Fs.tot m.files + b ≤ 1099511627776) : Good { m with files := m.files.modify i g } :=
  ⟨by show OkAll (m.files.modify i g).length m.sure m.pend; rw [modify_len]; exact h.all, h.names, fun f hf => by
    rcases mem_modify hf with h1 | ⟨f0, h1, rfl⟩
    · exact h.files f h1
    · exact hg f0 (h.files f0 (List.mem_of_getElem? h1)), by have := tot_modify m.files i g b hb; show Fs.tot (m.files.modify i g) ≤ _; omega, h.pend, h.q0, h.q1, h.f0, h.f1⟩
theorem grow_sure (b : List UInt8) (f : File) (h : f.sure ≤ f.bytes.length) : (grow b f).sure ≤ (grow b f).bytes.length := by simp [grow]; omega
theorem Good.append {m : Dsk} (h : Good m) (s b : Nm) (ht : Fs.tot m.files + b.length ≤ 1099511627776) : Good (append m s b).1 := by
  unfold Fs.append
  split
  · exact h
  · rename_i i _
    split
    · exact h
    · split
      · have e := (burn_files m).1
        have := h.burn.modify i (grow b) b.length (grow_sure b) (fun f => by simp [grow]) (by rw [e]; exact ht)
        rw [e] at this
        exact this
      · exact h.burn
theorem Good.sync {m : Dsk} (h : Good m) (s : Nm) : Good (sync m s).1 := by
  unfold Fs.sync
  split
  · exact h
  · rename_i i _
    split
    · have e := (burn_files m).1
      have := h.burn.modify i mkSure 0 (fun f _ => by simp [mkSure]) (fun f => by simp [mkSure]) (by rw [e]; exact h.tot)
      rw [e] at this
      exact this
    · exact h.burn
theorem Good.syncDir {m : Dsk} (h : Good m) : Good (syncDir m).1 := by
  unfold Fs.syncDir
  split
  · have hb := h.burn
    have e := (burn_files m).1
    refine ⟨?_, (burn_files m).2.1, hb.files, hb.tot, by simp, hb.q0, hb.q1, hb.f0, hb.f1⟩
    show DirOk (Fs.burn m).1.files.length m.names
    rw [e]; exact h.dir
  · exact h.burn
theorem Good.quota {m : Dsk} (h : Good m) (n : Int) (hn : n ≤ 9223372036854775807) : Good (quota m n) :=
  ⟨h.all, h.names, h.files, h.tot, h.pend, by simp [Fs.quota]; omega, by simp [Fs.quota]; omega, h.f0, h.f1⟩
theorem Good.fuse {m : Dsk} (h : Good m) (n : Int) (hn : n ≤ 9223372036854775807) : Good (fuse m n) := by
  unfold Fs.fuse
  split
  · exact h
  · exact ⟨h.all, h.names, h.files, h.tot, h.pend, h.q0, h.q1, by simp; omega, by simp; omega⟩
theorem within_bd (n l : Int) (hl : 0 ≤ l) : 0 ≤ within n l ∧ within n l ≤ l := by unfold within; omega
theorem cut_ok (more : Int) (f : File) (h : f.sure ≤ f.bytes.length) : (cut more f).sure = (cut more f).bytes.length ∧ f.sure ≤ (cut more f).sure ∧ (cut more f).sure ≤ f.bytes.length := by
  have := within_bd more ((f.bytes.length : Int) - f.sure) (by omega)
  unfold cut
  simp only [List.length_take]
  omega
theorem cut_pre (more : Int) (f : File) : (cut more f).bytes = f.bytes.take (cut more f).sure := rfl
theorem cutsN_len (kept : Dir) (keep : List Int) (fs : List File) : ∀ k, (cutsN kept keep fs k).length = fs.length
  | 0 => rfl
  | k + 1 => by
    unfold cutsN
    split
    · exact cutsN_len kept keep fs k
    · rw [modify_len]; exact cutsN_len kept keep fs k
theorem cutsN_sure (kept : Dir) (keep : List Int) (fs : List File) (h : ∀ f ∈ fs, f.sure ≤ f.bytes.length) : ∀ k, ∀ f ∈ cutsN kept keep fs k, f.sure ≤ f.bytes.length
  | 0 => h
  | k + 1 => by
    unfold cutsN
    split
    · exact cutsN_sure kept keep fs h k
    · intro f hf
      rcases mem_modify hf with h1 | ⟨f0, h1, rfl⟩
      · exact cutsN_sure kept keep fs h k f h1
      · have := cut_ok ((keep[k]?).getD 0) f0 (cutsN_sure kept keep fs h k f0 (List.mem_of_getElem? h1)); omega
theorem cutsN_tot (kept : Dir) (keep : List Int) (fs : List File) : ∀ k, tot (cutsN kept keep fs k) ≤ tot fs
  | 0 => Nat.le_refl _
  | k + 1 => by
    unfold cutsN
    split
    · exact cutsN_tot kept keep fs k
    · rename_i p _
      have := tot_modify (cutsN kept keep fs k) p.2 (cut ((keep[k]?).getD 0)) 0 (fun f => by simp [cut]; omega)
      have := cutsN_tot kept keep fs k
      omega
theorem keptOk {m : Dsk} (h : Good m) (n : Int) : DirOk m.files.length (keptOf m n) := okAll_end (okAll_take _ h.all)
theorem Good.crash {m : Dsk} (h : Good m) (n : Int) (keep : List Int) : Good (crash m n keep) := by
  refine ⟨?_, rfl, cutsN_sure _ _ _ h.files _, ?_, by simp [Fs.crash], h.q0, h.q1, by simp [Fs.crash], by simp [Fs.crash]⟩
  · show DirOk (cutsN (keptOf m n) keep m.files (keptOf m n).length).length (keptOf m n)
    rw [cutsN_len]; exact keptOk h n
  · have := cutsN_tot (keptOf m n) keep m.files (keptOf m n).length
    have := h.tot
    show Fs.tot (cutsN (keptOf m n) keep m.files (keptOf m n).length) ≤ _
    omega
end Fs
end Go.Proofs.YtlkcdcpdccmodaaGreatDoor
