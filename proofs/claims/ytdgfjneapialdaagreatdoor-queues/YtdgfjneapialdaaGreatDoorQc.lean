import Derived.Test.YtdgfjneapialdaaGreatDoorQb
import Derived.WalkSpells
import Derived.WalkLawsBesides
namespace Go.Proofs.YtdgfjneapialdaaGreatDoor
open Go Go.RowKit Go.Maps

/-- Of the blocks in C none has turned. -/
structure KeptC (C : Nat → Prop) (w w' : World) : Prop where
  os : w'.os = w.os
  tape : w'.tape = w.tape
  output : w'.output = w.output
  size : w.heap.size ≤ w'.heap.size
  block : ∀ k, C k → k < w.heap.size → w'.heap[k]? = w.heap[k]?

section
variable {C : Nat → Prop} {w w' w'' W : World}
theorem KeptC.refl (C : Nat → Prop) (w : World) : KeptC C w w := ⟨rfl, rfl, rfl, Nat.le_refl _, fun _ _ _ => rfl⟩
theorem KeptC.trans (h : KeptC C w w') (k : KeptC C w' w'') : KeptC C w w'' :=
  ⟨k.os.trans h.os, k.tape.trans h.tape, k.output.trans h.output, Nat.le_trans h.size k.size, fun i hc hi => (k.block i hc (Nat.lt_of_lt_of_le hi h.size)).trans (h.block i hc hi)⟩
theorem KeptC.of_below {B : Nat} (h : Below B w w') (hB : B = w.heap.size) : KeptC C w w' := ⟨h.os, h.tape, h.output, h.size, fun i _ hi => h.block i (by omega)⟩
theorem KeptC.below (h : KeptC C w W) (k : Below W.heap.size W w') : KeptC C w w' := h.trans (KeptC.of_below k rfl)
theorem KeptC.alloc (h : KeptC C w W) (o : Obj) : KeptC C w (W.alloc o) := h.below ((Below.refl _ _).alloc (Nat.le_refl _) _)
theorem KeptC.drew (h : KeptC C w W) : KeptC C w W.drew := ⟨h.os, h.tape, h.output, h.size, h.block⟩
theorem KeptC.drewN (h : KeptC C w W) (n : Nat) : KeptC C w (W.drewN n) := ⟨h.os, h.tape, h.output, h.size, h.block⟩
theorem KeptC.set (h : KeptC C w W) {a : Addr} (ha : ¬ C a.block) (v : Value) : KeptC C w (W.setCell a v) :=
  ⟨h.os, h.tape, h.output, by simpa [World.setCell] using h.size, fun i hc hi => (Below.heap_setCell W a v i (fun e => ha (e ▸ hc))).trans (h.block i hc hi)⟩
theorem KeptC.grown (h : KeptC C w W) {row : Option Nat} (k : W.grownBy w' row) (hr : ∀ b, row = some b → ¬ C b) : KeptC C w w' :=
  h.trans ⟨k.os, k.tape, k.output, k.size, fun i hc hi => k.block i hi (fun e => hr i e.symm hc)⟩
theorem KeptC.turned (h : KeptC C w W) {mb : Nat} (k : W.mapTurned w' mb) (hr : ¬ C mb) : KeptC C w w' :=
  h.grown k.grown (fun b e => by cases e; exact hr)
theorem KeptC.sub {C' : Nat → Prop} (h : KeptC C w w') (hs : ∀ k, C' k → C k) : KeptC C' w w' := ⟨h.os, h.tape, h.output, h.size, fun i hc hi => h.block i (hs i hc) hi⟩
theorem KeptC.cell (h : KeptC C w w') {a : Addr} (hc : C a.block) (hlt : a.block < w.heap.size) : w'.cell? a = w.cell? a := World.cell?_of_block (h.block _ hc hlt)
theorem KeptC.frozen (h : KeptC C w w') {a : Addr} (hc : C a.block) (hlt : a.block < w.heap.size) : w'.frozen? a = w.frozen? a := World.frozen?_of_block (h.block _ hc hlt)

/-- All that was there and what C covers. -/
theorem turned_size {mb : Nat} (k : W.mapTurned w' mb) : w'.heap.size = W.heap.size := by
  obtain ⟨_, _, _, _, _, e⟩ := k
  rw [e]
  simp [ChangeMaps.setBlock]
end

end Go.Proofs.YtdgfjneapialdaaGreatDoor
