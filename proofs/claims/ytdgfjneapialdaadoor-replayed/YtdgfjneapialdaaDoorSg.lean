import Derived.Test.YtdgfjneapialdaaDoorSf
namespace Go.Proofs.YtdgfjneapialdaaDoor
open Go Go.RowKit Go.Maps

def storeArr (lim ver cre : Int) (mb : Nat) (log : List Value) : Array Value := (Value.int .i64 lim :: .int .i64 ver :: .int .i64 cre :: .map (some mb) :: log).toArray

/-- Block sb is a store whose map is block mb. -/
structure IsStore (w : World) (sb mb : Nat) (lim ver cre : Int) (log : List Value) (n : Nat) (D : DataW Unit) : Prop where
  blk : w.heap[sb]? = some (.cells (storeArr lim ver cre mb log) 59 (0, 0))
  len : log.length = 160
  map : w.ownsMap Tryd.prog 67 objR mb n D

/-- Nothing that was there has turned but the blocks sb and mb. -/
structure Kept (sb mb : Nat) (w w' : World) : Prop where
  os : w'.os = w.os
  tape : w'.tape = w.tape
  output : w'.output = w.output
  size : w.heap.size ≤ w'.heap.size
  block : ∀ k, k < w.heap.size → k ≠ sb → k ≠ mb → w'.heap[k]? = w.heap[k]?

section
variable {sb mb : Nat} {w w' w'' W : World} {lim ver cre : Int} {log : List Value} {n : Nat} {D : DataW Unit}

theorem Kept.refl (sb mb : Nat) (w : World) : Kept sb mb w w := ⟨rfl, rfl, rfl, Nat.le_refl _, fun _ _ _ _ => rfl⟩
theorem Kept.trans (h : Kept sb mb w w') (k : Kept sb mb w' w'') : Kept sb mb w w'' :=
  ⟨k.os.trans h.os, k.tape.trans h.tape, k.output.trans h.output, Nat.le_trans h.size k.size, fun i hi h1 h2 => (k.block i (Nat.lt_of_lt_of_le hi h.size) h1 h2).trans (h.block i hi h1 h2)⟩
theorem Kept.below (h : Kept sb mb w W) (k : Below W.heap.size W w') : Kept sb mb w w' :=
  h.trans ⟨k.os, k.tape, k.output, k.size, fun i hi _ _ => k.block i hi⟩
theorem Kept.alloc (h : Kept sb mb w W) (o : Obj) : Kept sb mb w (W.alloc o) :=
  h.below ((Below.refl _ _).alloc (Nat.le_refl _) _)
theorem Kept.drew (h : Kept sb mb w W) : Kept sb mb w W.drew := ⟨h.os, h.tape, h.output, h.size, h.block⟩
theorem Kept.setStore (h : Kept sb mb w W) (o : Nat) (v : Value) : Kept sb mb w (W.setCell ⟨sb, o, none⟩ v) :=
  ⟨h.os, h.tape, h.output, by simpa [World.setCell] using h.size, fun i hi h1 h2 => (Below.heap_setCell W _ _ i h1).trans (h.block i hi h1 h2)⟩
theorem Kept.setNew (h : Kept sb mb w W) {a : Addr} (ha : w.heap.size ≤ a.block) (v : Value) : Kept sb mb w (W.setCell a v) :=
  ⟨h.os, h.tape, h.output, by simpa [World.setCell] using h.size, fun i hi h1 h2 => (Below.heap_setCell W a v i (by omega)).trans (h.block i hi h1 h2)⟩
theorem Kept.turned (h : Kept sb mb w W) (k : W.mapTurned w' mb) : Kept sb mb w w' :=
  h.trans ⟨k.grown.os, k.grown.tape, k.grown.output, k.grown.size, fun i hi _ h2 => k.grown.block i hi (fun e => h2 (Option.some.inj e))⟩
theorem Kept.toBelow {B : Nat} (h : Kept sb mb w w') (hs : B ≤ sb) (hm : B ≤ mb) (hB : B ≤ w.heap.size) : Below B w w' :=
  ⟨h.os, h.tape, h.output, h.size, fun i hi => h.block i (by omega) (by omega) (by omega)⟩
/-- What the caller itself has made reads as before. -/
theorem Kept.new {B : Nat} (h : Kept sb mb W w') (hs : sb < B) (hm : mb < B) :
    (∀ b o, B ≤ b → b < W.heap.size → w'.cell? ⟨b, o, none⟩ = W.cell? ⟨b, o, none⟩) ∧ (∀ b o, B ≤ b → b < W.heap.size → w'.frozen? ⟨b, o, none⟩ = W.frozen? ⟨b, o, none⟩) :=
  ⟨fun b _ h1 h2 => World.cell?_of_block (h.block b h2 (by omega) (by omega)), fun b _ h1 h2 => World.frozen?_of_block (h.block b h2 (by omega) (by omega))⟩

theorem bcell {W w1 : World} (hb : Below W.heap.size W w1) : (∀ b o, b < W.heap.size → w1.cell? ⟨b, o, none⟩ = W.cell? ⟨b, o, none⟩) ∧ (∀ b o, b < W.heap.size → w1.frozen? ⟨b, o, none⟩ = W.frozen? ⟨b, o, none⟩) :=
  ⟨fun b o h => hb.cell (p := ⟨b, o, none⟩) h, fun b o h => hb.frozen (p := ⟨b, o, none⟩) h⟩

theorem IsStore.lt (h : IsStore w sb mb lim ver cre log n D) : sb < w.heap.size := by
  have := h.blk; exact (Array.getElem?_eq_some_iff.1 this).1
theorem IsStore.mlt (h : IsStore w sb mb lim ver cre log n D) : mb < w.heap.size := h.map.lt
theorem IsStore.ne (h : IsStore w sb mb lim ver cre log n D) : mb ≠ sb := by
  intro e
  obtain ⟨es, clock, hb, _⟩ := h.map
  rw [e, h.blk] at hb
  cases hb
theorem IsStore.c0 (h : IsStore w sb mb lim ver cre log n D) : w.cell? ⟨sb, 0, none⟩ = some (.int .i64 lim) := by simp [World.cell?, h.blk, storeArr]
theorem IsStore.c1 (h : IsStore w sb mb lim ver cre log n D) : w.cell? ⟨sb, 1, none⟩ = some (.int .i64 ver) := by simp [World.cell?, h.blk, storeArr]
theorem IsStore.c2 (h : IsStore w sb mb lim ver cre log n D) : w.cell? ⟨sb, 2, none⟩ = some (.int .i64 cre) := by simp [World.cell?, h.blk, storeArr]
theorem IsStore.c3 (h : IsStore w sb mb lim ver cre log n D) : w.cell? ⟨sb, 3, none⟩ = some (.map (some mb)) := by simp [World.cell?, h.blk, storeArr]
theorem IsStore.fz (h : IsStore w sb mb lim ver cre log n D) : ∀ o, w.frozen? ⟨sb, o, none⟩ = false := fun o => by simp [World.frozen?, h.blk]
theorem IsStore.lg (h : IsStore w sb mb lim ver cre log n D) (m : Nat) (hm : m < 160) : ∃ v, w.cell? ⟨sb, 4 + m, none⟩ = some v ∧ log[m]? = some v := by
  have hl := h.len
  refine ⟨log[m], ?_, by simp⟩
  simp only [World.cell?, h.blk, storeArr]
  rw [show (4 + m) = (m + 4) from Nat.add_comm _ _]
  simp [hl, hm]

theorem IsStore.keep (h : IsStore w sb mb lim ver cre log n D) (hs : w'.heap[sb]? = w.heap[sb]?) (hm : w'.heap[mb]? = w.heap[mb]?) : IsStore w' sb mb lim ver cre log n D := by
  refine ⟨hs.trans h.blk, h.len, ?_⟩
  obtain ⟨es, clock, hb, r⟩ := h.map
  exact ⟨es, clock, hm.trans hb, r⟩
theorem IsStore.below (h : IsStore w sb mb lim ver cre log n D) (k : Below w.heap.size w w') : IsStore w' sb mb lim ver cre log n D := h.keep (k.block _ h.lt) (k.block _ h.mlt)
theorem IsStore.alloc (h : IsStore w sb mb lim ver cre log n D) (o : Obj) : IsStore (w.alloc o) sb mb lim ver cre log n D := h.below ((Below.refl _ _).alloc (Nat.le_refl _) _)
theorem IsStore.drew (h : IsStore w sb mb lim ver cre log n D) : IsStore w.drew sb mb lim ver cre log n D := h.keep rfl rfl
theorem IsStore.setNew (h : IsStore w sb mb lim ver cre log n D) {a : Addr} (h1 : sb ≠ a.block) (h2 : mb ≠ a.block) (v : Value) : IsStore (w.setCell a v) sb mb lim ver cre log n D :=
  h.keep (Below.heap_setCell _ _ _ _ h1) (Below.heap_setCell _ _ _ _ h2)
theorem heap_setCell_same {cs : Array Value} {t : TypeId} (h : w.heap[sb]? = some (.cells cs t (0, 0))) (o : Nat) (v : Value) : (w.setCell ⟨sb, o, none⟩ v).heap[sb]? = some (.cells (cs.setIfInBounds o v) t (0, 0)) := by
  simp [World.setCell, Array.getElem?_modify, h]
theorem IsStore.set1 (h : IsStore w sb mb lim ver cre log n D) (x : Int) : IsStore (w.setCell ⟨sb, 1, none⟩ (.int .i64 x)) sb mb lim x cre log n D :=
  ⟨by rw [heap_setCell_same h.blk]; simp [storeArr], h.len, h.map.setCell h.ne _⟩
theorem IsStore.set2 (h : IsStore w sb mb lim ver cre log n D) (x : Int) : IsStore (w.setCell ⟨sb, 2, none⟩ (.int .i64 x)) sb mb lim ver x log n D :=
  ⟨by rw [heap_setCell_same h.blk]; simp [storeArr], h.len, h.map.setCell h.ne _⟩
theorem IsStore.setLog (h : IsStore w sb mb lim ver cre log n D) (m : Nat) (x : Value) : IsStore (w.setCell ⟨sb, 4 + m, none⟩ x) sb mb lim ver cre (log.set m x) n D :=
  ⟨by rw [heap_setCell_same h.blk, Nat.add_comm]; simp [storeArr], by simp [h.len], h.map.setCell h.ne _⟩
theorem IsStore.mono (h : IsStore w sb mb lim ver cre log n D) {n' : Nat} (hn : n ≤ n') : IsStore w sb mb lim ver cre log n' D := ⟨h.blk, h.len, h.map.mono hn⟩
end

/-- The log with ten cells laid over it. -/
def logPut : List Value → Nat → List Value → List Value
  | log, _, [] => log
  | log, m, x :: r => logPut (log.set m x) (m + 1) r
theorem logPut_length : ∀ (xs : List Value) (log : List Value) (m : Nat), (logPut log m xs).length = log.length
  | [], _, _ => rfl
  | x :: r, log, m => by rw [logPut, logPut_length r]; simp

end Go.Proofs.YtdgfjneapialdaaDoor
