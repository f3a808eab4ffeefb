/-
  What large and play of the statements of layer 3 do: an act on a disk.
-/
import Derived.Test.YtlkcdcpdccmodaaGreatDoorFsCrash
namespace Go.Proofs.YtlkcdcpdccmodaaGreatDoor
open Go.ChangeShapes Go.WideShapes Go.ChangeAt Go.RowKit Go.Maps
set_option linter.unusedVariables false
set_option maxRecDepth 100000
set_option maxHeartbeats 400000

structure FsAct where
  kind : Int
  n : Int
  a : ByteArray
  b : ByteArray
  k : List Int
def FsAct.large (x : FsAct) : Bool := decide (100 < x.a.size) || decide (1000 < x.b.size) || decide (100 < x.k.length)
def fplay (m : Fs.Dsk) (x : FsAct) : Fs.Dsk × Int :=
  if x.kind = 0 then Fs.create m x.a.data.toList else if x.kind = 1 then Fs.append m x.a.data.toList x.b.data.toList else if x.kind = 2 then Fs.sync m x.a.data.toList
  else if x.kind = 3 then Fs.rename m x.a.data.toList x.b.data.toList else if x.kind = 4 then Fs.remove m x.a.data.toList else if x.kind = 5 then Fs.syncDir m
  else if x.kind = 6 then (Fs.fuse m x.n, 0) else if x.kind = 7 then (Fs.quota m x.n, 0) else if x.kind = 8 then (Fs.crash m x.n x.k, 0) else (m, 0)
theorem IntsAt.kp {K : Nat → Prop} {w w' : World} {v : Value} {l : List Int} (h : IntsAt K w v l) (hk : Kp K w w') : IntsAt K w' v l := by
  obtain ⟨a, cap, e, hc⟩ := h
  refine ⟨a, cap, e, fun hne => ?_⟩
  obtain ⟨b, off, ea, hb, hcell⟩ := hc hne
  refine ⟨b, off, ea, hb, fun j hj => ?_⟩
  rw [← hcell j hj]
  simp [World.cell?, hk.block b hb]
theorem IntsAt.mono {K K' : Nat → Prop} {w : World} {v : Value} {l : List Int} (h : IntsAt K w v l) (hk : ∀ b, K b → K' b) : IntsAt K' w v l := by
  obtain ⟨a, cap, e, hc⟩ := h
  refine ⟨a, cap, e, fun hne => ?_⟩
  obtain ⟨b, off, ea, hb, hcell⟩ := hc hne
  exact ⟨b, off, ea, hk b hb, hcell⟩
end Go.Proofs.YtlkcdcpdccmodaaGreatDoor
