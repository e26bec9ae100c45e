import Derived.Test.YtdgfjneapialdaaGreatDoorPt
namespace Go.Proofs.YtdgfjneapialdaaGreatDoor
open Go Go.RowKit Go.Maps Go.Lib Go.Sort

/-- Whose a block is: several things side by side. What thing i may not turn: the blocks of the others. -/
def Others (own : Nat → Nat) (w : World) (i : Nat) (b : Nat) : Prop := b < w.heap.size ∧ own b ≠ i
/-- After a call on thing i, all new blocks are its own. -/
def ownNew (own : Nat → Nat) (w : World) (i : Nat) (b : Nat) : Nat := if b < w.heap.size then own b else i
theorem ownNew_old {own : Nat → Nat} {w : World} {i b : Nat} (h : b < w.heap.size) : ownNew own w i b = own b := if_pos h
theorem ownNew_new {own : Nat → Nat} {w : World} {i b : Nat} (h : w.heap.size ≤ b) : ownNew own w i b = i := if_neg (Nat.not_lt.2 h)
/-- What thing i may not turn is, after its call, what it was. -/
theorem others_self {own : Nat → Nat} {w w' : World} (hs : w.heap.size ≤ w'.heap.size) (i b : Nat) : Others (ownNew own w i) w' i b ↔ Others own w i b := by
  unfold Others
  constructor
  · rintro ⟨h1, h2⟩
    by_cases h : b < w.heap.size
    · rw [ownNew_old h] at h2; exact ⟨h, h2⟩
    · rw [ownNew_new (Nat.not_lt.1 h)] at h2; exact absurd rfl h2
  · rintro ⟨h1, h2⟩
    exact ⟨by omega, by rw [ownNew_old h1]; exact h2⟩
theorem others_lt {own : Nat → Nat} {w : World} {i : Nat} : ∀ b, Others own w i b → b < w.heap.size := fun _ h => h.1
/-- A block of thing j is none that a call on thing i may turn. -/
theorem others_of {own : Nat → Nat} {w : World} {i j : Nat} (hij : i ≠ j) : ∀ b, ¬ Others own w j b → b < w.heap.size → Others own w i b := by
  intro b hb hlt
  refine ⟨hlt, fun e => hb ⟨hlt, fun e2 => hij (e.symm.trans e2)⟩⟩
/-- On the old blocks, the new map says of thing j what the old one says. -/
theorem others_old {own : Nat → Nat} {w w' : World} {i j : Nat} : ∀ b, b < w.heap.size → Others (ownNew own w i) w' j b → Others own w j b := by
  rintro b hlt ⟨_, h2⟩
  rw [ownNew_old hlt] at h2
  exact ⟨hlt, h2⟩

section
variable {own : Nat → Nat} {w w' : World} {i j rb : Nat} {v1 v2 v3 v4 v5 : Value} {r : RS}
/-- A reference queue that a call on another thing leaves. -/
theorem IsR.other (h : IsR (Others own w j) w rb v1 v2 v3 v4 v5 r) (hij : i ≠ j) (k : KeptC (Others own w i) w w') : IsR (Others (ownNew own w i) w' j) w' rb v1 v2 v3 v4 v5 r :=
  (h.more (C' := Others (ownNew own w i) w' j) others_old).kept k (fun b hb hlt => ⟨hlt, fun e => hb ⟨Nat.lt_of_lt_of_le hlt k.size, by rw [ownNew_old hlt, e]; exact hij⟩⟩)
/-- The one that the call was on. -/
theorem IsR.same (h : IsR (Others own w i) w' rb v1 v2 v3 v4 v5 r) (hs : w.heap.size ≤ w'.heap.size) : IsR (Others (ownNew own w i) w' i) w' rb v1 v2 v3 v4 v5 r :=
  h.more (fun b _ hb => (others_self hs i b).1 hb)
end

section
variable {own : Nat → Nat} {U : List ByteArray} {w w' : World} {i j qb pm dm fm : Nat} {rv : Value} {s : QS}
/-- A queue of the program that a call on another thing leaves. -/
theorem IsQ.other (h : IsQ (Others own w j) U w qb pm dm fm rv s) (hij : i ≠ j) (k : KeptC (Others own w i) w w') : IsQ (Others (ownNew own w i) w' j) U w' qb pm dm fm rv s :=
  (h.more (C' := Others (ownNew own w i) w' j) others_old).kept k (fun b hb hlt => ⟨hlt, fun e => hb ⟨Nat.lt_of_lt_of_le hlt k.size, by rw [ownNew_old hlt, e]; exact hij⟩⟩)
theorem IsQ.same (h : IsQ (Others own w i) U w' qb pm dm fm rv s) (hs : w.heap.size ≤ w'.heap.size) : IsQ (Others (ownNew own w i) w' i) U w' qb pm dm fm rv s :=
  h.more (fun b _ hb => (others_self hs i b).1 hb)

/-- The script's world that a call on a queue leaves. -/
theorem IsW.other {wb : Nat} {q bw bd : Value} {ws ds : List Value} (h : IsW w wb q bw bd ws ds) (h0 : own wb = 0) (h5 : ∀ b, bw.ownBlock = some b → own b = 0) (h6 : ∀ b, bd.ownBlock = some b → own b = 0) (hi : i ≠ 0) (k : KeptC (Others own w i) w w') : IsW w' wb q bw bd ws ds :=
  h.keep (k.block _ ⟨h.lt, by rw [h0]; exact hi.symm⟩ h.lt) (fun b e => k.block b ⟨own_lt h.ow e, by rw [h5 b e]; exact hi.symm⟩ (own_lt h.ow e)) (fun b e => k.block b ⟨own_lt h.od e, by rw [h6 b e]; exact hi.symm⟩ (own_lt h.od e))
/-- A list that the book keeps, likewise. -/
theorem KW.other {B : Nat} {n : ByteArray} {x : Value} (h : KW w B n x) (h0 : ∀ b, x.ownBlock = some b → own b = 0) (hi : i ≠ 0) (k : KeptC (Others own w i) w w') : KW w' B n x := by
  obtain ⟨m, hm, ho⟩ := h
  exact ⟨m, hm, own_keep ho (fun b e => k.block b ⟨own_lt ho e, by rw [h0 b e]; exact hi.symm⟩ (own_lt ho e))⟩
end

end Go.Proofs.YtdgfjneapialdaaGreatDoor
namespace Go.Proofs.YtdgfjneapialdaaGreatDoor
open Go Go.RowKit Go.Maps Go.Lib Go.Sort

section
variable {U : List ByteArray} {s : QS} {r : RS}
theorem keys_len {l : List Dk} (hn : l.Pairwise fun a b => a.1 ≠ b.1) (hU : ∀ x ∈ l, bk x.1 ∈ U) : l.length ≤ U.length := by
  have h1 : (l.map fun x => bk x.1).Pairwise fun a b => a ≠ b := by
    rw [List.pairwise_map]
    exact hn.imp (fun h e => h (bk_inj e))
  have := len_le_of_sub _ U h1 (fun x hx => by
    obtain ⟨y, hy, rfl⟩ := List.mem_map.1 hx
    exact hU y hy)
  simpa using this
theorem Rel.len1 (h : Rel U s r) : r.row.length ≤ U.length := by
  rw [h.row]
  exact len_le_of_sub _ U h.rnd (fun x hx => (h.pls x 1 ((h.rmem x).1 hx)).2)
theorem Rel.len2 (h : Rel U s r) : r.hand.length ≤ U.length :=
  len_le_of_sub _ U h.hnd (fun x hx => ((h.hand x).1 hx).elim (fun e => (h.pls x 2 e).2) (fun e => (h.pls x 3 e).2))
theorem Rel.len3 (h : Rel U s r) : r.again.length ≤ U.length :=
  len_le_of_sub _ U h.and (fun x hx => (h.pls x 3 ((h.again x).1 hx)).2)
theorem Rel.len4 (h : Rel U s r) : r.dues.length ≤ U.length := keys_len h.dnd (fun x hx => h.dU _ x.2 ((h.dmem x.1 x.2).1 hx))
theorem Rel.len5 (h : Rel U s r) : r.fails.length ≤ U.length := keys_len h.fnd (fun x hx => (h.fmem x.1 x.2 hx).2.2)
end

/-- The i-th queue, the program's and the reference's, in memory, and one to the other. -/
structure Both (own : Nat → Nat) (U : List ByteArray) (w : World) (i qb rb : Nat) (s : QS) (r : RS) : Prop where
  qs : ∃ pm dm fm rv, IsQ (Others own w (2 * i + 1)) U w qb pm dm fm rv s
  rs : ∃ v1 v2 v3 v4 v5, IsR (Others own w (2 * i + 2)) w rb v1 v2 v3 v4 v5 r
  ok : QOk U s
  rel : Rel U s r

section
variable {own : Nat → Nat} {U : List ByteArray} {w w' : World} {i j qb rb pm dm fm n : Nat} {s s' : QS} {r r' : RS}
/-- Another's call leaves the two. -/
theorem Both.other (h : Both own U w j qb rb s r) (h1 : n ≠ 2 * j + 1) (h2 : n ≠ 2 * j + 2) (k : KeptC (Others own w n) w w') : Both (ownNew own w n) U w' j qb rb s r := by
  obtain ⟨pm, dm, fm, rv, hq⟩ := h.qs
  obtain ⟨v1, v2, v3, v4, v5, hr⟩ := h.rs
  exact ⟨⟨pm, dm, fm, rv, hq.other h1 k⟩, ⟨v1, v2, v3, v4, v5, hr.other h2 k⟩, h.ok, h.rel⟩
/-- A call on the program's queue: what the reference's is after it. -/
theorem Both.half (h : Both own U w i qb rb s r) (k : KeptC (Others own w (2 * i + 1)) w w') : ∃ v1 v2 v3 v4 v5, IsR (Others (ownNew own w (2 * i + 1)) w' (2 * i + 2)) w' rb v1 v2 v3 v4 v5 r := by
  obtain ⟨v1, v2, v3, v4, v5, hr⟩ := h.rs
  exact ⟨v1, v2, v3, v4, v5, hr.other (by omega) k⟩
/-- Both calls are made. -/
theorem both_of {w1 : World} (h1 : QIs (Others own w (2 * i + 1)) U w w1 qb pm dm fm s') (h2 : RIs (Others (ownNew own w (2 * i + 1)) w1 (2 * i + 2)) w1 w' rb r') (ho : QOk U s') (hr : Rel U s' r') :
    Both (ownNew (ownNew own w (2 * i + 1)) w1 (2 * i + 2)) U w' i qb rb s' r' := by
  obtain ⟨⟨rv, hq⟩, hk1⟩ := h1
  obtain ⟨⟨v1, v2, v3, v4, v5, hr2⟩, hk2⟩ := h2
  exact ⟨⟨pm, dm, fm, rv, (hq.same hk1.size).other (by omega) hk2⟩, ⟨v1, v2, v3, v4, v5, hr2.same hk2.size⟩, ho, hr⟩
end

end Go.Proofs.YtdgfjneapialdaaGreatDoor
namespace Go.Proofs.YtdgfjneapialdaaGreatDoor
open Go Go.RowKit Go.Maps Go.Lib Go.Sort

/-- A new queue of the reference. -/
theorem rnew (C : Nat → Prop) (w : World) (hC : ∀ b, C b → b < w.heap.size) :
    IsR C (w.alloc (.cells (rArr 0 (.slice none 0 0) (.slice none 0 0) (.slice none 0 0) (.slice none 0 0) (.slice none 0 0)) 128)) w.heap.size (.slice none 0 0) (.slice none 0 0) (.slice none 0 0) (.slice none 0 0) (.slice none 0 0) ⟨0, [], [], [], [], []⟩ := by
  have n0 : ∀ {e : TypeId} {size : Nat}, (w.alloc (.cells (rArr 0 (.slice none 0 0) (.slice none 0 0) (.slice none 0 0) (.slice none 0 0) (.slice none 0 0)) 128)).ownsRow 0 e size (.slice none 0 0) 0 [] := fun {e size} => World.ownsRow_nil _ _ _ _
  have no : ∀ b, (Value.slice none 0 0).ownBlock = some b → ¬ C b := fun b e => by cases e
  exact ⟨(MapKept.heap_alloc w _).1, n0, n0, n0, n0, n0, (fun b e => by cases e), (fun b e => by cases e), (fun b e => by cases e), fun hc => absurd (hC _ hc) (Nat.lt_irrefl _), no, no, no, no, no⟩

section
variable {own : Nat → Nat} {U : List ByteArray} {w w' : World} {i : Nat}
/-- Both are new. -/
theorem both_new (h1 : IsQ (Others own w (2 * i + 1)) U w' (w.heap.size + 3) w.heap.size (w.heap.size + 1) (w.heap.size + 2) (.slice none 0 0) QS.new) (k : Below w.heap.size w w') :
    Both (ownNew (ownNew own w (2 * i + 1)) w' (2 * i + 2)) U (w'.alloc (.cells (rArr 0 (.slice none 0 0) (.slice none 0 0) (.slice none 0 0) (.slice none 0 0) (.slice none 0 0)) 128)) i (w.heap.size + 3) w'.heap.size QS.new ⟨0, [], [], [], [], []⟩ := by
  have hk : KeptC (Others (ownNew own w (2 * i + 1)) w' (2 * i + 2)) w' (w'.alloc (.cells (rArr 0 (.slice none 0 0) (.slice none 0 0) (.slice none 0 0) (.slice none 0 0) (.slice none 0 0)) 128)) := (KeptC.refl _ _).alloc _
  have hr := rnew (Others (ownNew own w (2 * i + 1)) w' (2 * i + 2)) w' others_lt
  exact ⟨⟨_, _, _, _, (h1.same k.size).other (by omega) hk⟩, ⟨_, _, _, _, _, hr.same hk.size⟩, QOk.new U, Rel.new U⟩
end

end Go.Proofs.YtdgfjneapialdaaGreatDoor
