import Derived.Test.YtdgfjneapialdaaGreatDoorPa
namespace Go.Proofs.YtdgfjneapialdaaGreatDoor
open Go Go.RowKit Go.Maps Go.Lib Go.Sort

abbrev Dk : Type := List UInt8 × Int
def encD (x : Dk) : List Value := [encStr x.1, .int .i64 x.2]
def flatD (l : List Dk) : List Value := l.flatMap encD
theorem flatD_len (l : List Dk) : (flatD l).length = l.length * 2 := by
  induction l with
  | nil => rfl
  | cons x r ih => simp [flatD, List.flatMap_cons] at ih ⊢; rw [ih]; simp [encD]; omega
theorem flatD_snoc (l : List Dk) (x : Dk) : flatD (l ++ [x]) = flatD l ++ encD x := by simp [flatD]
theorem flatD_cons (x : Dk) (l : List Dk) : flatD (x :: l) = encD x ++ flatD l := by simp [flatD]
theorem encD_len (x : Dk) : (encD x).length = 2 := rfl

/-- What the reference's queue is. -/
structure RS where
  ck : Int
  row : List ByteArray
  hand : List ByteArray
  again : List ByteArray
  dues : List Dk
  fails : List Dk

def rArr (ck : Int) (v1 v2 v3 v4 v5 : Value) : Array Value := #[.int .i64 ck, v1, v2, v3, v4, v5]

/-- Block rb is a queue of the reference; C: blocks that are another's. -/
structure IsR (C : Nat → Prop) (w : World) (rb : Nat) (v1 v2 v3 v4 v5 : Value) (r : RS) : Prop where
  blk : w.heap[rb]? = some (.cells (rArr r.ck v1 v2 v3 v4 v5) 128 (0, 0))
  o1 : w.ownsRow 0 9 1 v1 r.row.length (r.row.map Value.string)
  o2 : w.ownsRow 0 9 1 v2 r.hand.length (r.hand.map Value.string)
  o3 : w.ownsRow 0 9 1 v3 r.again.length (r.again.map Value.string)
  o4 : w.ownsRow 0 119 2 v4 r.dues.length (flatD r.dues)
  o5 : w.ownsRow 0 201 2 v5 r.fails.length (flatD r.fails)
  d12 : ∀ k, v1.ownBlock = some k → v2.ownBlock ≠ some k
  d13 : ∀ k, v1.ownBlock = some k → v3.ownBlock ≠ some k
  d23 : ∀ k, v2.ownBlock = some k → v3.ownBlock ≠ some k
  c0 : ¬ C rb
  c1 : ∀ k, v1.ownBlock = some k → ¬ C k
  c2 : ∀ k, v2.ownBlock = some k → ¬ C k
  c3 : ∀ k, v3.ownBlock = some k → ¬ C k
  c4 : ∀ k, v4.ownBlock = some k → ¬ C k
  c5 : ∀ k, v5.ownBlock = some k → ¬ C k

theorem own_typ {w : World} {base : Nat} {e : TypeId} {size : Nat} {v : Value} {n : Nat} {xs : List Value} (h : w.ownsRow base e size v n xs) : ∀ k, v.ownBlock = some k → ∃ cur, w.heap[k]? = some (.cells cur e (0, 0)) := by
  intro k hk
  rcases h.2 with ⟨rfl, _⟩ | ⟨g, cap, cur, rfl, _, hb, _⟩
  · cases hk
  · cases hk; exact ⟨cur, hb⟩
theorem own_keep {w w' : World} {base : Nat} {e : TypeId} {size : Nat} {v : Value} {n : Nat} {xs : List Value} (h : w.ownsRow base e size v n xs) (hk : ∀ k, v.ownBlock = some k → w'.heap[k]? = w.heap[k]?) : w'.ownsRow base e size v n xs := by
  refine ⟨h.1, ?_⟩
  rcases h.2 with hn | ⟨g, cap, cur, rfl, hb, hg, r⟩
  · exact Or.inl hn
  · exact Or.inr ⟨g, cap, cur, rfl, hb, (hk g rfl).trans hg, r⟩
theorem own_lt {w : World} {base : Nat} {e : TypeId} {size : Nat} {v : Value} {n : Nat} {xs : List Value} (h : w.ownsRow base e size v n xs) {k : Nat} (hk : v.ownBlock = some k) : k < w.heap.size := (h.lt k hk).2
theorem own_mono {w : World} {base base' : Nat} {e : TypeId} {size : Nat} {v : Value} {n : Nat} {xs : List Value} (h : w.ownsRow base e size v n xs) (hb : base' ≤ base) : w.ownsRow base' e size v n xs :=
  ⟨h.1, h.2.imp id fun ⟨g, cap, cur, h1, h2, h3⟩ => ⟨g, cap, cur, h1, Nat.le_trans hb h2, h3⟩⟩
theorem own_form {w : World} {base : Nat} {e : TypeId} {size : Nat} {v : Value} {n : Nat} {xs : List Value} (h : w.ownsRow base e size v n xs) : ∃ ao cap, v = .slice ao n cap := by
  rcases h.2 with ⟨rfl, h0⟩ | ⟨g, cap, cur, rfl, _⟩
  · exact ⟨none, 0, by rw [h0]⟩
  · exact ⟨_, _, rfl⟩
theorem ne_typ {w : World} {a b : Nat} {cs ds : Array Value} {s t : TypeId} (h1 : w.heap[a]? = some (.cells cs s (0, 0))) (h2 : w.heap[b]? = some (.cells ds t (0, 0))) (hne : s ≠ t) : a ≠ b := by
  intro e
  rw [e, h2] at h1
  cases h1
  exact hne rfl

section
variable {C : Nat → Prop} {w w' W : World} {rb : Nat} {v1 v2 v3 v4 v5 : Value} {r : RS}
theorem IsR.lt (h : IsR C w rb v1 v2 v3 v4 v5 r) : rb < w.heap.size := (Array.getElem?_eq_some_iff.1 h.blk).1
theorem IsR.q0 (h : IsR C w rb v1 v2 v3 v4 v5 r) : w.cell? ⟨rb, 0, none⟩ = some (.int .i64 r.ck) := by simp [World.cell?, h.blk, rArr]
theorem IsR.q1 (h : IsR C w rb v1 v2 v3 v4 v5 r) : w.cell? ⟨rb, 1, none⟩ = some v1 := by simp [World.cell?, h.blk, rArr]
theorem IsR.q2 (h : IsR C w rb v1 v2 v3 v4 v5 r) : w.cell? ⟨rb, 2, none⟩ = some v2 := by simp [World.cell?, h.blk, rArr]
theorem IsR.q3 (h : IsR C w rb v1 v2 v3 v4 v5 r) : w.cell? ⟨rb, 3, none⟩ = some v3 := by simp [World.cell?, h.blk, rArr]
theorem IsR.q4 (h : IsR C w rb v1 v2 v3 v4 v5 r) : w.cell? ⟨rb, 4, none⟩ = some v4 := by simp [World.cell?, h.blk, rArr]
theorem IsR.q5 (h : IsR C w rb v1 v2 v3 v4 v5 r) : w.cell? ⟨rb, 5, none⟩ = some v5 := by simp [World.cell?, h.blk, rArr]
theorem IsR.fz (h : IsR C w rb v1 v2 v3 v4 v5 r) : ∀ o, w.frozen? ⟨rb, o, none⟩ = false := fun o => by simp [World.frozen?, h.blk]
theorem IsR.keep (h : IsR C w rb v1 v2 v3 v4 v5 r) (hk : ∀ k, k < w.heap.size → w'.heap[k]? = w.heap[k]?) : IsR C w' rb v1 v2 v3 v4 v5 r :=
  ⟨(hk _ h.lt).trans h.blk, own_keep h.o1 (fun k e => hk k (own_lt h.o1 e)), own_keep h.o2 (fun k e => hk k (own_lt h.o2 e)), own_keep h.o3 (fun k e => hk k (own_lt h.o3 e)), own_keep h.o4 (fun k e => hk k (own_lt h.o4 e)), own_keep h.o5 (fun k e => hk k (own_lt h.o5 e)), h.d12, h.d13, h.d23, h.c0, h.c1, h.c2, h.c3, h.c4, h.c5⟩
theorem IsR.below (h : IsR C w rb v1 v2 v3 v4 v5 r) (k : Below w.heap.size w w') : IsR C w' rb v1 v2 v3 v4 v5 r := h.keep (fun i hi => k.block i hi)
theorem IsR.alloc (h : IsR C w rb v1 v2 v3 v4 v5 r) (o : Obj) : IsR C (w.alloc o) rb v1 v2 v3 v4 v5 r := h.below ((Below.refl _ _).alloc (Nat.le_refl _) _)
theorem IsR.drewN (h : IsR C w rb v1 v2 v3 v4 v5 r) (n : Nat) : IsR C (w.drewN n) rb v1 v2 v3 v4 v5 r := h.keep (fun _ _ => rfl)
theorem IsR.kept {C' : Nat → Prop} (h : IsR C w rb v1 v2 v3 v4 v5 r) (k : KeptC C' w w') (hc : ∀ b, ¬ C b → b < w.heap.size → C' b) : IsR C w' rb v1 v2 v3 v4 v5 r :=
  ⟨(k.block _ (hc _ h.c0 h.lt) h.lt).trans h.blk, own_keep h.o1 (fun b e => k.block b (hc b (h.c1 b e) (own_lt h.o1 e)) (own_lt h.o1 e)), own_keep h.o2 (fun b e => k.block b (hc b (h.c2 b e) (own_lt h.o2 e)) (own_lt h.o2 e)), own_keep h.o3 (fun b e => k.block b (hc b (h.c3 b e) (own_lt h.o3 e)) (own_lt h.o3 e)), own_keep h.o4 (fun b e => k.block b (hc b (h.c4 b e) (own_lt h.o4 e)) (own_lt h.o4 e)), own_keep h.o5 (fun b e => k.block b (hc b (h.c5 b e) (own_lt h.o5 e)) (own_lt h.o5 e)), h.d12, h.d13, h.d23, h.c0, h.c1, h.c2, h.c3, h.c4, h.c5⟩
theorem IsR.more {C' : Nat → Prop} (h : IsR C w rb v1 v2 v3 v4 v5 r) (hc : ∀ b, b < w.heap.size → C' b → C b) : IsR C' w rb v1 v2 v3 v4 v5 r :=
  ⟨h.blk, h.o1, h.o2, h.o3, h.o4, h.o5, h.d12, h.d13, h.d23, fun e => h.c0 (hc _ h.lt e), fun k hk e => h.c1 k hk (hc _ (own_lt h.o1 hk) e), fun k hk e => h.c2 k hk (hc _ (own_lt h.o2 hk) e), fun k hk e => h.c3 k hk (hc _ (own_lt h.o3 hk) e), fun k hk e => h.c4 k hk (hc _ (own_lt h.o4 hk) e), fun k hk e => h.c5 k hk (hc _ (own_lt h.o5 hk) e)⟩
theorem IsR.setCk (h : IsR C w rb v1 v2 v3 v4 v5 r) (x : Int) : IsR C (w.setCell ⟨rb, 0, none⟩ (.int .i64 x)) rb v1 v2 v3 v4 v5 { r with ck := x } := by
  have nb : ∀ {v : Value} {e : TypeId} {size n : Nat} {xs : List Value}, w.ownsRow 0 e size v n xs → e ≠ 128 → (w.setCell ⟨rb, 0, none⟩ (.int .i64 x)).ownsRow 0 e size v n xs := by
    intro v e size n xs ho hne
    refine own_keep ho (fun k hk => Below.heap_setCell _ _ _ _ ?_)
    obtain ⟨cur, hc⟩ := own_typ ho k hk
    exact ne_typ hc h.blk hne
  exact ⟨by rw [heap_setCell_at h.blk]; simp [rArr], nb h.o1 (by decide), nb h.o2 (by decide), nb h.o3 (by decide), nb h.o4 (by decide), nb h.o5 (by decide), h.d12, h.d13, h.d23, h.c0, h.c1, h.c2, h.c3, h.c4, h.c5⟩

/-- Another row is laid in: row. -/
theorem IsR.set1 (h : IsR C w rb v1 v2 v3 v4 v5 r) (k : w.grownBy W v1.ownBlock) {v' : Value} {l : List ByteArray} (hr : W.ownsRow 0 9 1 v' l.length (l.map Value.string)) (hn : ∀ b, v'.ownBlock = some b → v1.ownBlock = some b ∨ w.heap.size ≤ b) (hC : ∀ b, C b → b < w.heap.size) :
    IsR C (W.setCell ⟨rb, 1, none⟩ v') rb v' v2 v3 v4 v5 { r with row := l } := by
  have hb : ∀ b, b < w.heap.size → v1.ownBlock ≠ some b → W.heap[b]? = w.heap[b]? := fun b hb hne => k.block b hb (fun e => hne e.symm)
  have e0 : W.heap[rb]? = some (.cells (rArr r.ck v1 v2 v3 v4 v5) 128 (0, 0)) := by
    refine (hb rb h.lt (fun e => ?_)).trans h.blk
    obtain ⟨cur, hc⟩ := own_typ h.o1 rb e
    exact ne_typ hc h.blk (by decide) rfl
  have nr : ∀ {b : Nat}, v'.ownBlock = some b → b ≠ rb := by
    intro b e
    obtain ⟨cur, hc⟩ := own_typ hr b e
    exact ne_typ hc e0 (by decide)
  have p2 : ∀ b, v2.ownBlock = some b → v1.ownBlock ≠ some b := fun b e => fun e' => h.d12 b e' e
  have k2 : (W.setCell ⟨rb, 1, none⟩ v').ownsRow 0 9 1 v2 _ _ := own_keep (own_keep h.o2 (fun b e => hb b (own_lt h.o2 e) (p2 b e))) (fun b e => Below.heap_setCell _ _ _ _ (by
    obtain ⟨c1, h1⟩ := own_typ h.o2 b e
    exact ne_typ h1 h.blk (by decide)))
  have p3 : ∀ b, v3.ownBlock = some b → v1.ownBlock ≠ some b := fun b e => fun e' => h.d13 b e' e
  have k3 : (W.setCell ⟨rb, 1, none⟩ v').ownsRow 0 9 1 v3 _ _ := own_keep (own_keep h.o3 (fun b e => hb b (own_lt h.o3 e) (p3 b e))) (fun b e => Below.heap_setCell _ _ _ _ (by
    obtain ⟨c1, h1⟩ := own_typ h.o3 b e
    exact ne_typ h1 h.blk (by decide)))
  have p4 : ∀ b, v4.ownBlock = some b → v1.ownBlock ≠ some b := fun b e e' => by
    obtain ⟨c1, h1⟩ := own_typ h.o4 b e
    obtain ⟨c2, h2⟩ := own_typ h.o1 b e'
    exact ne_typ h1 h2 (by decide) rfl
  have k4 : (W.setCell ⟨rb, 1, none⟩ v').ownsRow 0 119 2 v4 _ _ := own_keep (own_keep h.o4 (fun b e => hb b (own_lt h.o4 e) (p4 b e))) (fun b e => Below.heap_setCell _ _ _ _ (by
    obtain ⟨c1, h1⟩ := own_typ h.o4 b e
    exact ne_typ h1 h.blk (by decide)))
  have p5 : ∀ b, v5.ownBlock = some b → v1.ownBlock ≠ some b := fun b e e' => by
    obtain ⟨c1, h1⟩ := own_typ h.o5 b e
    obtain ⟨c2, h2⟩ := own_typ h.o1 b e'
    exact ne_typ h1 h2 (by decide) rfl
  have k5 : (W.setCell ⟨rb, 1, none⟩ v').ownsRow 0 201 2 v5 _ _ := own_keep (own_keep h.o5 (fun b e => hb b (own_lt h.o5 e) (p5 b e))) (fun b e => Below.heap_setCell _ _ _ _ (by
    obtain ⟨c1, h1⟩ := own_typ h.o5 b e
    exact ne_typ h1 h.blk (by decide)))
  exact ⟨by rw [heap_setCell_at e0]; simp [rArr], own_keep hr (fun b e => Below.heap_setCell _ _ _ _ (nr e)), k2, k3, k4, k5, fun b e e' => (hn b e).elim (fun h1 => h.d12 b h1 e') (fun h1 => by have := own_lt h.o2 e'; omega), fun b e e' => (hn b e).elim (fun h1 => h.d13 b h1 e') (fun h1 => by have := own_lt h.o3 e'; omega), h.d23, h.c0, fun b e hc => (hn b e).elim (fun h1 => h.c1 b h1 hc) (fun h1 => by have := hC b hc; omega), h.c2, h.c3, h.c4, h.c5⟩

/-- Another row is laid in: hand. -/
theorem IsR.set2 (h : IsR C w rb v1 v2 v3 v4 v5 r) (k : w.grownBy W v2.ownBlock) {v' : Value} {l : List ByteArray} (hr : W.ownsRow 0 9 1 v' l.length (l.map Value.string)) (hn : ∀ b, v'.ownBlock = some b → v2.ownBlock = some b ∨ w.heap.size ≤ b) (hC : ∀ b, C b → b < w.heap.size) :
    IsR C (W.setCell ⟨rb, 2, none⟩ v') rb v1 v' v3 v4 v5 { r with hand := l } := by
  have hb : ∀ b, b < w.heap.size → v2.ownBlock ≠ some b → W.heap[b]? = w.heap[b]? := fun b hb hne => k.block b hb (fun e => hne e.symm)
  have e0 : W.heap[rb]? = some (.cells (rArr r.ck v1 v2 v3 v4 v5) 128 (0, 0)) := by
    refine (hb rb h.lt (fun e => ?_)).trans h.blk
    obtain ⟨cur, hc⟩ := own_typ h.o2 rb e
    exact ne_typ hc h.blk (by decide) rfl
  have nr : ∀ {b : Nat}, v'.ownBlock = some b → b ≠ rb := by
    intro b e
    obtain ⟨cur, hc⟩ := own_typ hr b e
    exact ne_typ hc e0 (by decide)
  have p1 : ∀ b, v1.ownBlock = some b → v2.ownBlock ≠ some b := fun b e => fun e' => h.d12 b e e'
  have k1 : (W.setCell ⟨rb, 2, none⟩ v').ownsRow 0 9 1 v1 _ _ := own_keep (own_keep h.o1 (fun b e => hb b (own_lt h.o1 e) (p1 b e))) (fun b e => Below.heap_setCell _ _ _ _ (by
    obtain ⟨c1, h1⟩ := own_typ h.o1 b e
    exact ne_typ h1 h.blk (by decide)))
  have p3 : ∀ b, v3.ownBlock = some b → v2.ownBlock ≠ some b := fun b e => fun e' => h.d23 b e' e
  have k3 : (W.setCell ⟨rb, 2, none⟩ v').ownsRow 0 9 1 v3 _ _ := own_keep (own_keep h.o3 (fun b e => hb b (own_lt h.o3 e) (p3 b e))) (fun b e => Below.heap_setCell _ _ _ _ (by
    obtain ⟨c1, h1⟩ := own_typ h.o3 b e
    exact ne_typ h1 h.blk (by decide)))
  have p4 : ∀ b, v4.ownBlock = some b → v2.ownBlock ≠ some b := fun b e e' => by
    obtain ⟨c1, h1⟩ := own_typ h.o4 b e
    obtain ⟨c2, h2⟩ := own_typ h.o2 b e'
    exact ne_typ h1 h2 (by decide) rfl
  have k4 : (W.setCell ⟨rb, 2, none⟩ v').ownsRow 0 119 2 v4 _ _ := own_keep (own_keep h.o4 (fun b e => hb b (own_lt h.o4 e) (p4 b e))) (fun b e => Below.heap_setCell _ _ _ _ (by
    obtain ⟨c1, h1⟩ := own_typ h.o4 b e
    exact ne_typ h1 h.blk (by decide)))
  have p5 : ∀ b, v5.ownBlock = some b → v2.ownBlock ≠ some b := fun b e e' => by
    obtain ⟨c1, h1⟩ := own_typ h.o5 b e
    obtain ⟨c2, h2⟩ := own_typ h.o2 b e'
    exact ne_typ h1 h2 (by decide) rfl
  have k5 : (W.setCell ⟨rb, 2, none⟩ v').ownsRow 0 201 2 v5 _ _ := own_keep (own_keep h.o5 (fun b e => hb b (own_lt h.o5 e) (p5 b e))) (fun b e => Below.heap_setCell _ _ _ _ (by
    obtain ⟨c1, h1⟩ := own_typ h.o5 b e
    exact ne_typ h1 h.blk (by decide)))
  exact ⟨by rw [heap_setCell_at e0]; simp [rArr], k1, own_keep hr (fun b e => Below.heap_setCell _ _ _ _ (nr e)), k3, k4, k5, fun b e e' => (hn b e').elim (fun h1 => h.d12 b e h1) (fun h1 => by have := own_lt h.o1 e; omega), h.d13, fun b e e' => (hn b e).elim (fun h1 => h.d23 b h1 e') (fun h1 => by have := own_lt h.o3 e'; omega), h.c0, h.c1, fun b e hc => (hn b e).elim (fun h1 => h.c2 b h1 hc) (fun h1 => by have := hC b hc; omega), h.c3, h.c4, h.c5⟩

/-- Another row is laid in: again. -/
theorem IsR.set3 (h : IsR C w rb v1 v2 v3 v4 v5 r) (k : w.grownBy W v3.ownBlock) {v' : Value} {l : List ByteArray} (hr : W.ownsRow 0 9 1 v' l.length (l.map Value.string)) (hn : ∀ b, v'.ownBlock = some b → v3.ownBlock = some b ∨ w.heap.size ≤ b) (hC : ∀ b, C b → b < w.heap.size) :
    IsR C (W.setCell ⟨rb, 3, none⟩ v') rb v1 v2 v' v4 v5 { r with again := l } := by
  have hb : ∀ b, b < w.heap.size → v3.ownBlock ≠ some b → W.heap[b]? = w.heap[b]? := fun b hb hne => k.block b hb (fun e => hne e.symm)
  have e0 : W.heap[rb]? = some (.cells (rArr r.ck v1 v2 v3 v4 v5) 128 (0, 0)) := by
    refine (hb rb h.lt (fun e => ?_)).trans h.blk
    obtain ⟨cur, hc⟩ := own_typ h.o3 rb e
    exact ne_typ hc h.blk (by decide) rfl
  have nr : ∀ {b : Nat}, v'.ownBlock = some b → b ≠ rb := by
    intro b e
    obtain ⟨cur, hc⟩ := own_typ hr b e
    exact ne_typ hc e0 (by decide)
  have p1 : ∀ b, v1.ownBlock = some b → v3.ownBlock ≠ some b := fun b e => fun e' => h.d13 b e e'
  have k1 : (W.setCell ⟨rb, 3, none⟩ v').ownsRow 0 9 1 v1 _ _ := own_keep (own_keep h.o1 (fun b e => hb b (own_lt h.o1 e) (p1 b e))) (fun b e => Below.heap_setCell _ _ _ _ (by
    obtain ⟨c1, h1⟩ := own_typ h.o1 b e
    exact ne_typ h1 h.blk (by decide)))
  have p2 : ∀ b, v2.ownBlock = some b → v3.ownBlock ≠ some b := fun b e => fun e' => h.d23 b e e'
  have k2 : (W.setCell ⟨rb, 3, none⟩ v').ownsRow 0 9 1 v2 _ _ := own_keep (own_keep h.o2 (fun b e => hb b (own_lt h.o2 e) (p2 b e))) (fun b e => Below.heap_setCell _ _ _ _ (by
    obtain ⟨c1, h1⟩ := own_typ h.o2 b e
    exact ne_typ h1 h.blk (by decide)))
  have p4 : ∀ b, v4.ownBlock = some b → v3.ownBlock ≠ some b := fun b e e' => by
    obtain ⟨c1, h1⟩ := own_typ h.o4 b e
    obtain ⟨c2, h2⟩ := own_typ h.o3 b e'
    exact ne_typ h1 h2 (by decide) rfl
  have k4 : (W.setCell ⟨rb, 3, none⟩ v').ownsRow 0 119 2 v4 _ _ := own_keep (own_keep h.o4 (fun b e => hb b (own_lt h.o4 e) (p4 b e))) (fun b e => Below.heap_setCell _ _ _ _ (by
    obtain ⟨c1, h1⟩ := own_typ h.o4 b e
    exact ne_typ h1 h.blk (by decide)))
  have p5 : ∀ b, v5.ownBlock = some b → v3.ownBlock ≠ some b := fun b e e' => by
    obtain ⟨c1, h1⟩ := own_typ h.o5 b e
    obtain ⟨c2, h2⟩ := own_typ h.o3 b e'
    exact ne_typ h1 h2 (by decide) rfl
  have k5 : (W.setCell ⟨rb, 3, none⟩ v').ownsRow 0 201 2 v5 _ _ := own_keep (own_keep h.o5 (fun b e => hb b (own_lt h.o5 e) (p5 b e))) (fun b e => Below.heap_setCell _ _ _ _ (by
    obtain ⟨c1, h1⟩ := own_typ h.o5 b e
    exact ne_typ h1 h.blk (by decide)))
  exact ⟨by rw [heap_setCell_at e0]; simp [rArr], k1, k2, own_keep hr (fun b e => Below.heap_setCell _ _ _ _ (nr e)), k4, k5, h.d12, fun b e e' => (hn b e').elim (fun h1 => h.d13 b e h1) (fun h1 => by have := own_lt h.o1 e; omega), fun b e e' => (hn b e').elim (fun h1 => h.d23 b e h1) (fun h1 => by have := own_lt h.o2 e; omega), h.c0, h.c1, h.c2, fun b e hc => (hn b e).elim (fun h1 => h.c3 b h1 hc) (fun h1 => by have := hC b hc; omega), h.c4, h.c5⟩

/-- Another row is laid in: dues. -/
theorem IsR.set4 (h : IsR C w rb v1 v2 v3 v4 v5 r) (k : w.grownBy W v4.ownBlock) {v' : Value} {l : List Dk} (hr : W.ownsRow 0 119 2 v' l.length (flatD l)) (hn : ∀ b, v'.ownBlock = some b → v4.ownBlock = some b ∨ w.heap.size ≤ b) (hC : ∀ b, C b → b < w.heap.size) :
    IsR C (W.setCell ⟨rb, 4, none⟩ v') rb v1 v2 v3 v' v5 { r with dues := l } := by
  have hb : ∀ b, b < w.heap.size → v4.ownBlock ≠ some b → W.heap[b]? = w.heap[b]? := fun b hb hne => k.block b hb (fun e => hne e.symm)
  have e0 : W.heap[rb]? = some (.cells (rArr r.ck v1 v2 v3 v4 v5) 128 (0, 0)) := by
    refine (hb rb h.lt (fun e => ?_)).trans h.blk
    obtain ⟨cur, hc⟩ := own_typ h.o4 rb e
    exact ne_typ hc h.blk (by decide) rfl
  have nr : ∀ {b : Nat}, v'.ownBlock = some b → b ≠ rb := by
    intro b e
    obtain ⟨cur, hc⟩ := own_typ hr b e
    exact ne_typ hc e0 (by decide)
  have p1 : ∀ b, v1.ownBlock = some b → v4.ownBlock ≠ some b := fun b e e' => by
    obtain ⟨c1, h1⟩ := own_typ h.o1 b e
    obtain ⟨c2, h2⟩ := own_typ h.o4 b e'
    exact ne_typ h1 h2 (by decide) rfl
  have k1 : (W.setCell ⟨rb, 4, none⟩ v').ownsRow 0 9 1 v1 _ _ := own_keep (own_keep h.o1 (fun b e => hb b (own_lt h.o1 e) (p1 b e))) (fun b e => Below.heap_setCell _ _ _ _ (by
    obtain ⟨c1, h1⟩ := own_typ h.o1 b e
    exact ne_typ h1 h.blk (by decide)))
  have p2 : ∀ b, v2.ownBlock = some b → v4.ownBlock ≠ some b := fun b e e' => by
    obtain ⟨c1, h1⟩ := own_typ h.o2 b e
    obtain ⟨c2, h2⟩ := own_typ h.o4 b e'
    exact ne_typ h1 h2 (by decide) rfl
  have k2 : (W.setCell ⟨rb, 4, none⟩ v').ownsRow 0 9 1 v2 _ _ := own_keep (own_keep h.o2 (fun b e => hb b (own_lt h.o2 e) (p2 b e))) (fun b e => Below.heap_setCell _ _ _ _ (by
    obtain ⟨c1, h1⟩ := own_typ h.o2 b e
    exact ne_typ h1 h.blk (by decide)))
  have p3 : ∀ b, v3.ownBlock = some b → v4.ownBlock ≠ some b := fun b e e' => by
    obtain ⟨c1, h1⟩ := own_typ h.o3 b e
    obtain ⟨c2, h2⟩ := own_typ h.o4 b e'
    exact ne_typ h1 h2 (by decide) rfl
  have k3 : (W.setCell ⟨rb, 4, none⟩ v').ownsRow 0 9 1 v3 _ _ := own_keep (own_keep h.o3 (fun b e => hb b (own_lt h.o3 e) (p3 b e))) (fun b e => Below.heap_setCell _ _ _ _ (by
    obtain ⟨c1, h1⟩ := own_typ h.o3 b e
    exact ne_typ h1 h.blk (by decide)))
  have p5 : ∀ b, v5.ownBlock = some b → v4.ownBlock ≠ some b := fun b e e' => by
    obtain ⟨c1, h1⟩ := own_typ h.o5 b e
    obtain ⟨c2, h2⟩ := own_typ h.o4 b e'
    exact ne_typ h1 h2 (by decide) rfl
  have k5 : (W.setCell ⟨rb, 4, none⟩ v').ownsRow 0 201 2 v5 _ _ := own_keep (own_keep h.o5 (fun b e => hb b (own_lt h.o5 e) (p5 b e))) (fun b e => Below.heap_setCell _ _ _ _ (by
    obtain ⟨c1, h1⟩ := own_typ h.o5 b e
    exact ne_typ h1 h.blk (by decide)))
  exact ⟨by rw [heap_setCell_at e0]; simp [rArr], k1, k2, k3, own_keep hr (fun b e => Below.heap_setCell _ _ _ _ (nr e)), k5, h.d12, h.d13, h.d23, h.c0, h.c1, h.c2, h.c3, fun b e hc => (hn b e).elim (fun h1 => h.c4 b h1 hc) (fun h1 => by have := hC b hc; omega), h.c5⟩

/-- Another row is laid in: fails. -/
theorem IsR.set5 (h : IsR C w rb v1 v2 v3 v4 v5 r) (k : w.grownBy W v5.ownBlock) {v' : Value} {l : List Dk} (hr : W.ownsRow 0 201 2 v' l.length (flatD l)) (hn : ∀ b, v'.ownBlock = some b → v5.ownBlock = some b ∨ w.heap.size ≤ b) (hC : ∀ b, C b → b < w.heap.size) :
    IsR C (W.setCell ⟨rb, 5, none⟩ v') rb v1 v2 v3 v4 v' { r with fails := l } := by
  have hb : ∀ b, b < w.heap.size → v5.ownBlock ≠ some b → W.heap[b]? = w.heap[b]? := fun b hb hne => k.block b hb (fun e => hne e.symm)
  have e0 : W.heap[rb]? = some (.cells (rArr r.ck v1 v2 v3 v4 v5) 128 (0, 0)) := by
    refine (hb rb h.lt (fun e => ?_)).trans h.blk
    obtain ⟨cur, hc⟩ := own_typ h.o5 rb e
    exact ne_typ hc h.blk (by decide) rfl
  have nr : ∀ {b : Nat}, v'.ownBlock = some b → b ≠ rb := by
    intro b e
    obtain ⟨cur, hc⟩ := own_typ hr b e
    exact ne_typ hc e0 (by decide)
  have p1 : ∀ b, v1.ownBlock = some b → v5.ownBlock ≠ some b := fun b e e' => by
    obtain ⟨c1, h1⟩ := own_typ h.o1 b e
    obtain ⟨c2, h2⟩ := own_typ h.o5 b e'
    exact ne_typ h1 h2 (by decide) rfl
  have k1 : (W.setCell ⟨rb, 5, none⟩ v').ownsRow 0 9 1 v1 _ _ := own_keep (own_keep h.o1 (fun b e => hb b (own_lt h.o1 e) (p1 b e))) (fun b e => Below.heap_setCell _ _ _ _ (by
    obtain ⟨c1, h1⟩ := own_typ h.o1 b e
    exact ne_typ h1 h.blk (by decide)))
  have p2 : ∀ b, v2.ownBlock = some b → v5.ownBlock ≠ some b := fun b e e' => by
    obtain ⟨c1, h1⟩ := own_typ h.o2 b e
    obtain ⟨c2, h2⟩ := own_typ h.o5 b e'
    exact ne_typ h1 h2 (by decide) rfl
  have k2 : (W.setCell ⟨rb, 5, none⟩ v').ownsRow 0 9 1 v2 _ _ := own_keep (own_keep h.o2 (fun b e => hb b (own_lt h.o2 e) (p2 b e))) (fun b e => Below.heap_setCell _ _ _ _ (by
    obtain ⟨c1, h1⟩ := own_typ h.o2 b e
    exact ne_typ h1 h.blk (by decide)))
  have p3 : ∀ b, v3.ownBlock = some b → v5.ownBlock ≠ some b := fun b e e' => by
    obtain ⟨c1, h1⟩ := own_typ h.o3 b e
    obtain ⟨c2, h2⟩ := own_typ h.o5 b e'
    exact ne_typ h1 h2 (by decide) rfl
  have k3 : (W.setCell ⟨rb, 5, none⟩ v').ownsRow 0 9 1 v3 _ _ := own_keep (own_keep h.o3 (fun b e => hb b (own_lt h.o3 e) (p3 b e))) (fun b e => Below.heap_setCell _ _ _ _ (by
    obtain ⟨c1, h1⟩ := own_typ h.o3 b e
    exact ne_typ h1 h.blk (by decide)))
  have p4 : ∀ b, v4.ownBlock = some b → v5.ownBlock ≠ some b := fun b e e' => by
    obtain ⟨c1, h1⟩ := own_typ h.o4 b e
    obtain ⟨c2, h2⟩ := own_typ h.o5 b e'
    exact ne_typ h1 h2 (by decide) rfl
  have k4 : (W.setCell ⟨rb, 5, none⟩ v').ownsRow 0 119 2 v4 _ _ := own_keep (own_keep h.o4 (fun b e => hb b (own_lt h.o4 e) (p4 b e))) (fun b e => Below.heap_setCell _ _ _ _ (by
    obtain ⟨c1, h1⟩ := own_typ h.o4 b e
    exact ne_typ h1 h.blk (by decide)))
  exact ⟨by rw [heap_setCell_at e0]; simp [rArr], k1, k2, k3, k4, own_keep hr (fun b e => Below.heap_setCell _ _ _ _ (nr e)), h.d12, h.d13, h.d23, h.c0, h.c1, h.c2, h.c3, h.c4, fun b e hc => (hn b e).elim (fun h1 => h.c5 b h1 hc) (fun h1 => by have := hC b hc; omega)⟩
end

/-- The reference's queue behind a call. -/
def RIs (C : Nat → Prop) (w w' : World) (rb : Nat) (r' : RS) : Prop := (∃ v1 v2 v3 v4 v5, IsR C w' rb v1 v2 v3 v4 v5 r') ∧ KeptC C w w'

end Go.Proofs.YtdgfjneapialdaaGreatDoor
