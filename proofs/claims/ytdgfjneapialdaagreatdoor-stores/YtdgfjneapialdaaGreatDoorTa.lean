import Derived.Test.YtdgfjneapialdaaGreatDoorSn
import Derived.ArgAppend
import Derived.Maps.AppendAt
import Derived.Test.YtdgfjneapialdaaGreatDoorRe
import Derived.BigQuiet
import Derived.Deep.QuietTactic
import Derived.Deep.AppendLies
namespace Go.Proofs.YtdgfjneapialdaaGreatDoor.S
open Go Go.RowKit Go.Maps

/-- Of the blocks in C none has turned. -/
structure KeptC (C : Nat → Prop) (w w' : World) : Prop where
  os : w'.os = w.os
  tape : w'.tape = w.tape
  output : w'.output = w.output
  size : w.heap.size ≤ w'.heap.size
  block : ∀ k, C k → k < w.heap.size → w'.heap[k]? = w.heap[k]?

section
variable {C : Nat → Prop} {w w' w'' W : World}
theorem KeptC.refl (C : Nat → Prop) (w : World) : KeptC C w w := ⟨rfl, rfl, rfl, Nat.le_refl _, fun _ _ _ => rfl⟩
theorem KeptC.trans (h : KeptC C w w') (k : KeptC C w' w'') : KeptC C w w'' :=
  ⟨k.os.trans h.os, k.tape.trans h.tape, k.output.trans h.output, Nat.le_trans h.size k.size, fun i hc hi => (k.block i hc (Nat.lt_of_lt_of_le hi h.size)).trans (h.block i hc hi)⟩
theorem KeptC.of_below {B : Nat} (h : Below B w w') (hB : B = w.heap.size) : KeptC C w w' := ⟨h.os, h.tape, h.output, h.size, fun i _ hi => h.block i (by omega)⟩
theorem KeptC.below (h : KeptC C w W) (k : Below W.heap.size W w') : KeptC C w w' := h.trans (KeptC.of_below k rfl)
theorem KeptC.alloc (h : KeptC C w W) (o : Obj) : KeptC C w (W.alloc o) := h.below ((Below.refl _ _).alloc (Nat.le_refl _) _)
theorem KeptC.drew (h : KeptC C w W) : KeptC C w W.drew := ⟨h.os, h.tape, h.output, h.size, h.block⟩
theorem KeptC.drewN (h : KeptC C w W) (n : Nat) : KeptC C w (W.drewN n) := ⟨h.os, h.tape, h.output, h.size, h.block⟩
theorem KeptC.set (h : KeptC C w W) {a : Addr} (ha : ¬ C a.block) (v : Value) : KeptC C w (W.setCell a v) :=
  ⟨h.os, h.tape, h.output, by simpa [World.setCell] using h.size, fun i hc hi => (Below.heap_setCell W a v i (fun e => ha (e ▸ hc))).trans (h.block i hc hi)⟩
theorem KeptC.grown (h : KeptC C w W) {row : Option Nat} (k : W.grownBy w' row) (hr : ∀ b, row = some b → ¬ C b) : KeptC C w w' :=
  h.trans ⟨k.os, k.tape, k.output, k.size, fun i hc hi => k.block i hi (fun e => hr i e.symm hc)⟩
theorem KeptC.turned (h : KeptC C w W) {mb : Nat} (k : W.mapTurned w' mb) (hr : ¬ C mb) : KeptC C w w' :=
  h.grown k.grown (fun b e => by cases e; exact hr)
theorem KeptC.sub {C' : Nat → Prop} (h : KeptC C w w') (hs : ∀ k, C' k → C k) : KeptC C' w w' := ⟨h.os, h.tape, h.output, h.size, fun i hc hi => h.block i (hs i hc) hi⟩
theorem KeptC.cell (h : KeptC C w w') {a : Addr} (hc : C a.block) (hlt : a.block < w.heap.size) : w'.cell? a = w.cell? a := World.cell?_of_block (h.block _ hc hlt)
theorem KeptC.frozen (h : KeptC C w w') {a : Addr} (hc : C a.block) (hlt : a.block < w.heap.size) : w'.frozen? a = w.frozen? a := World.frozen?_of_block (h.block _ hc hlt)

end

theorem own_typ {w : World} {base : Nat} {e : TypeId} {size : Nat} {v : Value} {n : Nat} {xs : List Value} (h : w.ownsRow base e size v n xs) : ∀ k, v.ownBlock = some k → ∃ cur, w.heap[k]? = some (.cells cur e (0, 0)) := by
  intro k hk
  rcases h.2 with ⟨rfl, _⟩ | ⟨g, cap, cur, rfl, _, hb, _⟩
  · cases hk
  · cases hk; exact ⟨cur, hb⟩
theorem own_keep {w w' : World} {base : Nat} {e : TypeId} {size : Nat} {v : Value} {n : Nat} {xs : List Value} (h : w.ownsRow base e size v n xs) (hk : ∀ k, v.ownBlock = some k → w'.heap[k]? = w.heap[k]?) : w'.ownsRow base e size v n xs := by
  refine ⟨h.1, ?_⟩
  rcases h.2 with hn | ⟨g, cap, cur, rfl, hb, hg, r⟩
  · exact Or.inl hn
  · exact Or.inr ⟨g, cap, cur, rfl, hb, (hk g rfl).trans hg, r⟩
theorem own_lt {w : World} {base : Nat} {e : TypeId} {size : Nat} {v : Value} {n : Nat} {xs : List Value} (h : w.ownsRow base e size v n xs) {k : Nat} (hk : v.ownBlock = some k) : k < w.heap.size := (h.lt k hk).2
theorem own_mono {w : World} {base base' : Nat} {e : TypeId} {size : Nat} {v : Value} {n : Nat} {xs : List Value} (h : w.ownsRow base e size v n xs) (hb : base' ≤ base) : w.ownsRow base' e size v n xs :=
  ⟨h.1, h.2.imp id fun ⟨g, cap, cur, h1, h2, h3⟩ => ⟨g, cap, cur, h1, Nat.le_trans hb h2, h3⟩⟩
theorem own_form {w : World} {base : Nat} {e : TypeId} {size : Nat} {v : Value} {n : Nat} {xs : List Value} (h : w.ownsRow base e size v n xs) : ∃ ao cap, v = .slice ao n cap := by
  rcases h.2 with ⟨rfl, h0⟩ | ⟨g, cap, cur, rfl, _⟩
  · exact ⟨none, 0, by rw [h0]⟩
  · exact ⟨_, _, rfl⟩
theorem ne_typ {w : World} {a b : Nat} {cs ds : Array Value} {s t : TypeId} (h1 : w.heap[a]? = some (.cells cs s (0, 0))) (h2 : w.heap[b]? = some (.cells ds t (0, 0))) (hne : s ≠ t) : a ≠ b := by
  intro e
  rw [e, h2] at h1
  cases h1
  exact hne rfl

theorem heap_setCell_at {w : World} {cs : Array Value} {t : TypeId} {fr : Nat × Nat} {g : Nat} (h : w.heap[g]? = some (.cells cs t fr)) (o : Nat) (u : Value) : (w.setCell ⟨g, o, none⟩ u).heap[g]? = some (.cells (cs.setIfInBounds o u) t fr) := by
  simp [World.setCell, Array.getElem?_modify, h]
theorem own_drewN {w : World} {base : Nat} {e : TypeId} {size : Nat} {v : Value} {n : Nat} {xs : List Value} (h : w.ownsRow base e size v n xs) (m : Nat) : (w.drewN m).ownsRow base e size v n xs := own_keep h (fun _ _ => rfl)

theorem own_set {w : World} {base g n cap : Nat} {e : TypeId} {size : Nat} {xs : List Value} (h : w.ownsRow base e size (.slice (some ⟨g, 0, none⟩) n cap) n xs) (p : Nat) (v : Value) : (w.setCell ⟨g, p, none⟩ v).ownsRow base e size (.slice (some ⟨g, 0, none⟩) n cap) n (xs.set p v) := by
  refine ⟨by rw [List.length_set]; exact h.1, ?_⟩
  rcases h.2 with ⟨h1, _⟩ | ⟨g', cap', cur, h1, h2, h3, h4, h5, h6, h7⟩
  · cases h1
  · cases h1
    refine Or.inr ⟨g, cap, cur.setIfInBounds p v, rfl, h2, heap_setCell_at h3 _ _, h4, h5, by simpa using h6, ?_⟩
    rw [Array.toList_setIfInBounds, List.take_set, h7]
theorem grown_set {w : World} {g : Nat} (o : Nat) (u : Value) : w.grownBy (w.setCell ⟨g, o, none⟩ u) (some g) :=
  ⟨rfl, rfl, rfl, by simp [World.setCell], fun k _ hk => Below.heap_setCell _ _ _ _ (fun e => hk (by rw [e]))⟩
theorem own_frozen {w : World} {base g n cap : Nat} {e : TypeId} {size : Nat} {xs : List Value} (h : w.ownsRow base e size (.slice (some ⟨g, 0, none⟩) n cap) n xs) (o : Nat) : w.frozen? ⟨g, o, none⟩ = false := by
  obtain ⟨cur, hc⟩ := own_typ h g rfl
  simp [World.frozen?, hc]

/-- What the book's word may turn: the world, the words' list, the list that is marked. -/
def Aside (w : World) (wb : Nat) (a b : Option Nat) (k : Nat) : Prop := k < w.heap.size ∧ k ≠ wb ∧ a ≠ some k ∧ b ≠ some k

section
variable {P : Program} (w : World)
/-- append, and besides: every row no longer than the one that is appended to reads as before. -/
theorem run_append_keeps (base : Nat) (t ty e : TypeId) (i : TypeInfo) (z : Value) (size bytes : Nat) (ht : P.underlying t = some (.slice e)) (hi : P.info? e = some i) (hz : i.zero = some z)
    (hsize : i.size = size) (hby : i.bytes = bytes) (hzs : z.cells.size = size) (hsz : 0 < size)
    (v : Value) (n : Nat) (xs : List Value) (hown : w.ownsRow base e size v n xs)
    (a : Addr) (m c : Nat) (news : List Value) (hl : news.length = m * size) (hnews : ∀ j u, news[j]? = some u → w.cell? (a.add j) = some u) (h1 : ∀ u ∈ news, u.oneCell' = true)
    (h63 : n + m ≤ maxLen) (hbytes : (n + m) * bytes ≤ 140737488355328) (hbase : base ≤ w.heap.size) :
    ∃ v' w', (Builtin.append_ #[t, t] ty #[v, .slice (some a) m c]).run P w = .ok v' w' ∧ w'.ownsRow base e size v' (n + m) (xs ++ news) ∧ w.grownBy w' v.ownBlock ∧
      (v'.ownBlock = v.ownBlock ∨ v'.ownBlock = some w.heap.size) ∧ (∀ b u k ys, w.ownsRow b e size u k ys → k ≤ n → w'.ownsRow b e size u k ys) := by
  obtain ⟨v', w', hr, h2, h3, h4, h5⟩ := run_append_own_at (P := P) w base t ty e i z size bytes ht hi hz hsize hby hzs hsz v n xs hown a m c news hl hnews h1 h63 hbytes hbase
  refine ⟨v', w', hr, h2, h3, h5, fun b u k ys hu hk => ?_⟩
  by_cases hne : u.ownBlock = none ∨ u.ownBlock ≠ v.ownBlock
  · exact hu.kept h3 hne
  · simp only [not_or, ne_eq, Decidable.not_not] at hne
    obtain ⟨hn1, hn2⟩ := hne
    rcases hown.2 with ⟨rfl, rfl⟩ | ⟨g, cap, cur, rfl, hbg, hg, hnc, hcm, hcs, htake⟩
    · exact absurd hn2 hn1
    · by_cases hroom : n + m ≤ cap
      · subst hsize
        have hfit : n * i.size + news.length ≤ cur.size := by rw [hl, hcs, ← Nat.add_mul]; exact Nat.mul_le_mul_right _ hroom
        have hr2 := run_append_room (P := P) w t ty e i ht hi g n cap cur hg a m c news hl hnews h1 hroom hfit
        rw [hr] at hr2
        injection hr2 with e1 e2
        rcases hu.2 with ⟨rfl, _⟩ | ⟨g', cap', cur', rfl, hbg', hg', hnc', hcm', hcs', htake'⟩
        · exact absurd rfl hn1
        · have eg : g' = g := by simpa [Value.ownBlock] using hn2
          subst eg
          rw [hg] at hg'
          simp only [Option.some.injEq, Obj.cells.injEq, and_true] at hg'
          subst hg'
          refine ⟨hu.1, Or.inr ⟨g', cap', _, rfl, hbg', by rw [e2]; exact setRow_heap w g' cur _ e _ hg, hnc', hcm', ?_, ?_⟩⟩
          · simp only [List.size_toArray, List.length_append, List.length_take, List.length_drop, Array.length_toList]
            omega
          · have hkn : k * i.size ≤ n * i.size := Nat.mul_le_mul_right _ hk
            rw [List.append_assoc, List.take_append_of_le_length (by rw [List.length_take, Array.length_toList]; omega), List.take_take, Nat.min_eq_left hkn]
            exact htake'
      · obtain ⟨v2, w2, hr2, _, r2⟩ := run_append_arg_grows (P := P) w t ty e i z size bytes ht hi hz hsize hby hzs hsz ⟨g, 0, none⟩ n cap xs hown.1 (hown.cells (g := g) rfl) a m c news hl hnews (by omega) h63 hbytes
        rw [hr] at hr2
        injection hr2 with e1 e2
        subst e2
        exact hu.kept r2 (Or.inr hn1)

theorem wpList_append_keeps {ops : Array Oper} {rest : List Oper} {o : Oper} {a : Act} {Q : Exit → Act → World → Prop} (hgd : o.guard = none) (s x : Operand) (t : TypeId)
    (ho : o.op = .call { callee := .builtin .append, args := #[s, x], argTypes := #[t, t] })
    (base : Nat) (e : TypeId) (i : TypeInfo) (z : Value) (size bytes : Nat) (ht : P.underlying t = some (.slice e)) (hi : P.info? e = some i) (hz : i.zero = some z)
    (hsize : i.size = size) (hby : i.bytes = bytes) (hzs : z.cells.size = size) (hsz : 0 < size)
    (v : Value) (n : Nat) (xs : List Value) (hs : a.eval s = v) (hown : w.ownsRow base e size v n xs)
    (ad : Addr) (m c : Nat) (news : List Value) (hx : a.eval x = .slice (some ad) m c) (hl : news.length = m * size) (hnews : ∀ j u, news[j]? = some u → w.cell? (ad.add j) = some u) (h1 : ∀ u ∈ news, u.oneCell' = true)
    (h63 : n + m ≤ maxLen) (hbytes : (n + m) * bytes ≤ 140737488355328) (hbase : base ≤ w.heap.size)
    (h : ∀ v' w', w'.ownsRow base e size v' (n + m) (xs ++ news) → w.grownBy w' v.ownBlock → (v'.ownBlock = v.ownBlock ∨ v'.ownBlock = some w.heap.size) → (∀ b u k ys, w.ownsRow b e size u k ys → k ≤ n → w'.ownsRow b e size u k ys) → wpList P ops Q rest (a.put o.dst v') w') :
    wpList P ops Q (o :: rest) a w := by
  refine wpList_plain hgd fun K hK => ?_
  obtain ⟨v', w', hr, h2, h3, h4, h5⟩ := run_append_keeps (P := P) w base t o.type e i z size bytes ht hi hz hsize hby hzs hsz v n xs hown ad m c news hl hnews h1 h63 hbytes hbase
  unfold Oper.wp execOp
  simp only [ho, resolve, invoke, builtin, Sem.run_bind, Sem.run_pure, Result.andThen_ok, List.map_toArray, List.map_cons, List.map_nil, hs, hx, hr]
  exact hK _ _ (h v' w' h2 h3 h4 h5)
end

/-- Whose a block is: several things side by side. What thing i may not turn: the blocks of the others. -/
def Others (own : Nat → Nat) (w : World) (i : Nat) (b : Nat) : Prop := b < w.heap.size ∧ own b ≠ i
/-- After a call on thing i, all new blocks are its own. -/
def ownNew (own : Nat → Nat) (w : World) (i : Nat) (b : Nat) : Nat := if b < w.heap.size then own b else i
theorem ownNew_old {own : Nat → Nat} {w : World} {i b : Nat} (h : b < w.heap.size) : ownNew own w i b = own b := if_pos h
theorem ownNew_new {own : Nat → Nat} {w : World} {i b : Nat} (h : w.heap.size ≤ b) : ownNew own w i b = i := if_neg (Nat.not_lt.2 h)
/-- What thing i may not turn is, after its call, what it was. -/
theorem others_self {own : Nat → Nat} {w w' : World} (hs : w.heap.size ≤ w'.heap.size) (i b : Nat) : Others (ownNew own w i) w' i b ↔ Others own w i b := by
  unfold Others
  constructor
  · rintro ⟨h1, h2⟩
    by_cases h : b < w.heap.size
    · rw [ownNew_old h] at h2; exact ⟨h, h2⟩
    · rw [ownNew_new (Nat.not_lt.1 h)] at h2; exact absurd rfl h2
  · rintro ⟨h1, h2⟩
    exact ⟨by omega, by rw [ownNew_old h1]; exact h2⟩
theorem others_lt {own : Nat → Nat} {w : World} {i : Nat} : ∀ b, Others own w i b → b < w.heap.size := fun _ h => h.1
/-- A block of thing j is none that a call on thing i may turn. -/
theorem others_of {own : Nat → Nat} {w : World} {i j : Nat} (hij : i ≠ j) : ∀ b, ¬ Others own w j b → b < w.heap.size → Others own w i b := by
  intro b hb hlt
  refine ⟨hlt, fun e => hb ⟨hlt, fun e2 => hij (e.symm.trans e2)⟩⟩
/-- On the old blocks, the new map says of thing j what the old one says. -/
theorem others_old {own : Nat → Nat} {w w' : World} {i j : Nat} : ∀ b, b < w.heap.size → Others (ownNew own w i) w' j b → Others own w j b := by
  rintro b hlt ⟨_, h2⟩
  rw [ownNew_old hlt] at h2
  exact ⟨hlt, h2⟩

/-- The row of pairs. -/
def encP (p : Nat × Nat) : List Value := [.pointer (some ⟨p.1, 0, none⟩), .pointer (some ⟨p.2, 0, none⟩)]
def flatP (l : List (Nat × Nat)) : List Value := l.flatMap encP
theorem flatP_snoc (l : List (Nat × Nat)) (p : Nat × Nat) : flatP (l ++ [p]) = flatP l ++ encP p := by simp [flatP]
theorem flatP_len (l : List (Nat × Nat)) : (flatP l).length = l.length * 2 := by
  induction l with
  | nil => rfl
  | cons x r ih => simp [flatP, List.flatMap_cons] at ih ⊢; rw [ih]; simp [encP]; omega
theorem flatP_get (l : List (Nat × Nat)) : ∀ i (h : i < l.length), (flatP l)[i * 2]? = some (.pointer (some ⟨l[i].1, 0, none⟩)) ∧ (flatP l)[i * 2 + 1]? = some (.pointer (some ⟨l[i].2, 0, none⟩)) := by
  induction l with
  | nil => intro i h; simp at h
  | cons x r ih =>
    intro i h
    cases i with
    | zero => exact ⟨rfl, rfl⟩
    | succ i =>
      have := ih i (by simpa using h)
      rw [show (i + 1) * 2 = i * 2 + 1 + 1 by omega, show i * 2 + 1 + 1 + 1 = i * 2 + 1 + 1 + 1 by omega]
      exact this

/-- Whose the argument's blocks are: no thing's. -/
def ARG : Nat := 10000000000000
theorem getElem_snocs {l r : List Value} {i : Nat} (h : i < (l ++ r).length) : (∃ h1 : i < l.length, (l ++ r)[i] = l[i]) ∨ (l.length ≤ i ∧ (l ++ r)[i] ∈ r) := by
  by_cases h1 : i < l.length
  · exact Or.inl ⟨h1, List.getElem_append_left h1⟩
  · refine Or.inr ⟨by omega, ?_⟩
    rw [List.getElem_append_right (by omega)]
    exact List.getElem_mem _

theorem ownNew_twice {own : Nat → Nat} {w w1 : World} {a : Nat} (hs : w.heap.size ≤ w1.heap.size) : ownNew (ownNew own w a) w1 a = ownNew own w a := by
  funext b
  by_cases h : b < w1.heap.size
  · rw [ownNew_old h]
  · rw [ownNew_new (Nat.not_lt.1 h), ownNew_new (by omega)]
theorem kept_twice {own : Nat → Nat} {w w1 w2 : World} {a : Nat} (h1 : KeptC (Others own w a) w w1) (h2 : KeptC (Others (ownNew own w a) w1 a) w1 w2) : KeptC (Others own w a) w w2 :=
  h1.trans (h2.sub (fun b hb => (others_self h1.size a b).2 hb))

def Args (own : Nat → Nat) (w : World) (b : Nat) : Prop := b < w.heap.size ∧ own b = ARG
/-- The argument's blocks stay, and the old blocks stay whose they are. -/
structure Moves (own : Nat → Nat) (w : World) (own' : Nat → Nat) (w' : World) : Prop where
  kept : KeptC (Args own w) w w'
  old : ∀ b, b < w.heap.size → own' b = own b
theorem Moves.trans {own own1 own2 : Nat → Nat} {w w1 w2 : World} (h : Moves own w own1 w1) (k : Moves own1 w1 own2 w2) : Moves own w own2 w2 :=
  ⟨h.kept.trans (k.kept.sub (fun b hb => ⟨Nat.lt_of_lt_of_le hb.1 h.kept.size, (h.old b hb.1).trans hb.2⟩)), fun b hb => (k.old b (Nat.lt_of_lt_of_le hb h.kept.size)).trans (h.old b hb)⟩
theorem Moves.call {own : Nat → Nat} {w w' : World} {a : Nat} (ha : a < ARG) (k : KeptC (Others own w a) w w') : Moves own w (ownNew own w a) w' :=
  ⟨k.sub (fun b hb => ⟨hb.1, fun e => by have := hb.2; omega⟩), fun b hb => ownNew_old hb⟩
theorem Moves.below {own : Nat → Nat} {w w' : World} (k : Below w.heap.size w w') : Moves own w (ownNew own w 0) w' := Moves.call (by unfold ARG; omega) (KeptC.of_below k rfl)
theorem Moves.belowA {own : Nat → Nat} {w w' : World} (a : Nat) (k : Below w.heap.size w w') : Moves own w (ownNew own w a) w' := ⟨KeptC.of_below k rfl, fun _ hb => ownNew_old hb⟩
theorem Moves.refl (own : Nat → Nat) (w : World) : Moves own w own w := ⟨KeptC.refl _ _, fun _ _ => rfl⟩

def none0 : Nat → Prop := fun _ => False
theorem Moves.pair {own : Nat → Nat} {w w' : World} {i : Nat} (hi : 2 * i + 2 < ARG) {w1 : World} (k1 : KeptC (Others own w (2 * i + 1)) w w1) (k2 : KeptC (Others (ownNew own w (2 * i + 1)) w1 (2 * i + 2)) w1 w') : Moves own w (ownNew (ownNew own w (2 * i + 1)) w1 (2 * i + 2)) w' :=
  (Moves.call (by omega) k1).trans (Moves.call hi k2)
/-- A step of the script. -/
structure St where
  k : Int
  on : Int
  a : Int
  b : Int
  s : ByteArray
  o0 : Int
  o1 : ByteArray
  o2 : Int
  o3 : Int
  o4 : Int
  o5 : Int
  o6 : Int
  o7 : Int
  o8 : Bool
  c0 : Int
  c1 : Int
  c2 : Int
  p0 : Int
  p1 : ByteArray
  p2 : Int
  p3 : Int
def St.arr (t : St) : Array Value := #[.int .i64 t.k, .int .i64 t.on, .int .i64 t.a, .int .i64 t.b, .string t.s, .int .u8 t.o0, .string t.o1, .int .i64 t.o2, .int .i64 t.o3, .int .i64 t.o4, .int .i64 t.o5, .int .i64 t.o6, .int .u8 t.o7, .bool t.o8, .int .i64 t.c0, .int .i64 t.c1, .int .i64 t.c2, .int .u8 t.p0, .string t.p1, .int .i64 t.p2, .int .i64 t.p3]

theorem below2 (w : World) (a b : Obj) : Below w.heap.size w ((w.alloc a).alloc b) := belowAl (belowAl (Below.refl _ _) _) _
theorem box2a (w : World) (a b : Obj) : ((w.alloc a).alloc b).heap[w.heap.size]? = some a := by
  rw [Below.heap_alloc _ _ _ (by simp)]
  exact (MapKept.heap_alloc w a).1
theorem box2b (w : World) (a b : Obj) : ((w.alloc a).alloc b).heap[w.heap.size + 1]? = some b := by
  have := (MapKept.heap_alloc (w.alloc a) b).1
  rw [show (w.alloc a).heap.size = w.heap.size + 1 by simp] at this
  exact this
/-- A new block of the script's, behind a call on a queue. -/
theorem new_kept {own : Nat → Nat} {w w2 w3 : World} {a k : Nat} {o : Obj} (ha : a ≠ 0) (h : KeptC (Others (ownNew own w 0) w2 a) w2 w3) (hk : w.heap.size ≤ k) (hb : w2.heap[k]? = some o) : w3.heap[k]? = some o :=
  (h.block k ⟨(Array.getElem?_eq_some_iff.1 hb).1, by rw [ownNew_new hk]; exact ha.symm⟩ (Array.getElem?_eq_some_iff.1 hb).1).trans hb

theorem quo4 (k : Nat) : ((k : Int)).tdiv 4 = ((k / 4 : Nat) : Int) := by rw [Int.tdiv_eq_ediv_of_nonneg (by omega)]; omega
theorem quo4e (k : Nat) : ((k : Int)) / 4 = ((k / 4 : Nat) : Int) := by omega
theorem num_bd (k L : Nat) (hk : k < L) (hL : L ≤ 4000000000000) : (-9223372036854775808 : Int) ≤ 9000 + ((k / 4 : Nat) : Int) ∧ 9000 + ((k / 4 : Nat) : Int) ≤ 9223372036854775807 := by omega


end Go.Proofs.YtdgfjneapialdaaGreatDoor.S

namespace Go.Proofs.YtdgfjneapialdaaGreatDoor.S
open Go Go.RowKit Go.Maps

/-- Is a told ahead of b? -/
def aheadB (a b : Ob) : Bool := if a.kind = b.kind then (if a.kind = 1 then decide (a.uid < b.uid) else decide (a.name.toList < b.name.toList)) else decide (a.kind < b.kind)
/-- An object, laid into a list where it is told. -/
def insL (x : Ob) (out : List Ob) : List Ob := out.takeWhile (fun y => aheadB y x) ++ x :: out.dropWhile (fun y => aheadB y x)
def ordL (l : List Ob) : List Ob := l.foldl (fun out x => insL x out) []

theorem aheadB_irr (a : Ob) : aheadB a a = false := by
  unfold aheadB
  rw [if_pos rfl]
  split
  · simp
  · simp [List.lt_irrefl]
theorem aheadB_tr {a b c : Ob} (h1 : aheadB a b = true) (h2 : aheadB b c = true) : aheadB a c = true := by
  unfold aheadB at *
  by_cases e1 : a.kind = b.kind
  · rw [if_pos e1] at h1
    by_cases e2 : b.kind = c.kind
    · rw [if_pos e2] at h2
      rw [if_pos (e1.trans e2)]
      by_cases hk : a.kind = 1
      · rw [if_pos hk] at h1 ⊢
        rw [if_pos (e1 ▸ hk)] at h2
        simp at *
        omega
      · rw [if_neg hk] at h1 ⊢
        rw [if_neg (e1 ▸ hk)] at h2
        simp only [decide_eq_true_eq] at *
        exact List.lt_trans h1 h2
    · rw [if_neg e2] at h2
      rw [if_neg (e1 ▸ e2)]
      simp at *
      omega
  · rw [if_neg e1] at h1
    by_cases e2 : b.kind = c.kind
    · rw [if_neg (e2 ▸ e1)]
      simp at *
      omega
    · rw [if_neg e2] at h2
      simp at h1 h2
      rw [if_neg (by omega)]
      simp
      omega
theorem aheadB_as {a b : Ob} (h1 : aheadB a b = true) : aheadB b a = false := by
  cases h : aheadB b a
  · rfl
  · have := aheadB_tr h1 h
    rw [aheadB_irr] at this
    cases this

theorem tw_of {p : Ob → Bool} : ∀ (out : List Ob) (k : Nat), (∀ (j : Nat) (h : j < out.length), j < k → p out[j] = true) → (out.length ≤ k ∨ ∃ h : k < out.length, p out[k] = false) → out.takeWhile p = out.take k ∧ out.dropWhile p = out.drop k
  | [], k, _, _ => by simp
  | x :: r, 0, _, he => by
    rcases he with he | ⟨h, he⟩
    · simp at he
    · simp at he
      simp [he]
  | x :: r, k + 1, h, he => by
    have hx := h 0 (by simp) (by omega)
    simp at hx
    have ih := tw_of (p := p) r k (fun j hj hk => by have := h (j + 1) (by simp; omega) (by omega); simpa using this) (by
      rcases he with he | ⟨h2, he⟩
      · exact Or.inl (by simp at he; omega)
      · exact Or.inr ⟨by simp at h2; omega, by simpa using he⟩)
    simp [hx, ih.1, ih.2]

theorem insL_is {x : Ob} {out : List Ob} {k : Nat} (h : ∀ (j : Nat) (h : j < out.length), j < k → aheadB out[j] x = true) (he : out.length ≤ k ∨ ∃ h : k < out.length, aheadB out[k] x = false) : insL x out = out.take k ++ [x] ++ out.drop k := by
  obtain ⟨h1, h2⟩ := tw_of (p := fun y => aheadB y x) out k h he
  unfold insL
  rw [h1, h2]
  simp
theorem insL_perm (x : Ob) (out : List Ob) : (insL x out).Perm (x :: out) := by
  unfold insL
  refine List.perm_middle.trans ?_
  rw [List.takeWhile_append_dropWhile]
theorem insL_len (x : Ob) (out : List Ob) : (insL x out).length = out.length + 1 := by
  rw [(insL_perm x out).length_eq]; rfl
theorem ordL_snoc (l : List Ob) (x : Ob) : ordL (l ++ [x]) = insL x (ordL l) := by simp [ordL]
theorem ordL_take (l : List Ob) (k : Nat) (hk : k < l.length) : ordL (l.take (k + 1)) = insL l[k] (ordL (l.take k)) := by
  rw [List.take_succ_eq_append_getElem hk, ordL_snoc]
theorem perm_rev_ind {P : List Ob → Prop} (h0 : P []) (h1 : ∀ l x, P l → P (l ++ [x])) (l : List Ob) : P l := by
  have : ∀ n, ∀ l : List Ob, l.length = n → P l := by
    intro n
    induction n with
    | zero => intro l hl; rw [List.length_eq_zero_iff.1 hl]; exact h0
    | succ n ih =>
      intro l hl
      have hne : l ≠ [] := fun e => by simp [e] at hl
      rw [← List.dropLast_concat_getLast hne]
      exact h1 _ _ (ih _ (by simp [hl]))
  exact this _ l rfl
theorem ordL_perm (l : List Ob) : (ordL l).Perm l := by
  refine perm_rev_ind (P := fun l => (ordL l).Perm l) (List.Perm.refl _) (fun l x ih => ?_) l
  rw [ordL_snoc]
  exact (insL_perm x _).trans ((List.Perm.cons x ih).trans (List.perm_append_singleton x l).symm)
theorem ordL_len (l : List Ob) : (ordL l).length = l.length := (ordL_perm l).length_eq

/-- Each two are told one ahead of the other. -/
def Apart (l : List Ob) : Prop := l.Pairwise fun a b => aheadB a b = true ∨ aheadB b a = true

theorem insL_sorted {x : Ob} {out : List Ob} (h : out.Pairwise fun a b => aheadB a b = true) (hx : ∀ y ∈ out, aheadB y x = true ∨ aheadB x y = true) : (insL x out).Pairwise fun a b => aheadB a b = true := by
  induction out with
  | nil => simp [insL]
  | cons y r ih =>
    rw [List.pairwise_cons] at h
    by_cases hy : aheadB y x = true
    · have e : insL x (y :: r) = y :: insL x r := by simp [insL, hy]
      rw [e, List.pairwise_cons]
      refine ⟨fun z hz => ?_, ih h.2 (fun z hz => hx z (List.mem_cons_of_mem _ hz))⟩
      rcases List.mem_cons.1 ((insL_perm x r).mem_iff.1 hz) with rfl | hz
      · exact hy
      · exact h.1 z hz
    · have e : insL x (y :: r) = x :: y :: r := by simp [insL, hy]
      have hxy : aheadB x y = true := (hx y (by simp)).resolve_left hy
      rw [e, List.pairwise_cons, List.pairwise_cons]
      refine ⟨fun z hz => ?_, h.1, h.2⟩
      rcases List.mem_cons.1 hz with rfl | hz
      · exact hxy
      · exact aheadB_tr hxy (h.1 z hz)
theorem ordL_sorted (l : List Ob) (h : Apart l) : (ordL l).Pairwise fun a b => aheadB a b = true := by
  revert h
  refine perm_rev_ind (P := fun l => Apart l → (ordL l).Pairwise fun a b => aheadB a b = true) (fun _ => by simp [ordL]) (fun l x ih h => ?_) l
  rw [ordL_snoc]
  unfold Apart at h
  rw [List.pairwise_append] at h
  exact insL_sorted (ih h.1) (fun y hy => h.2.2 y ((ordL_perm l).mem_iff.1 hy) x (by simp))

/-- Two lists in this order that have the same members are one. -/
theorem sorted_one : ∀ {a b : List Ob}, (a.Pairwise fun x y => aheadB x y = true) → (b.Pairwise fun x y => aheadB x y = true) → (∀ x, x ∈ a ↔ x ∈ b) → a = b
  | [], [], _, _, _ => rfl
  | [], y :: s, _, _, h => absurd ((h y).2 (by simp)) (by simp)
  | x :: r, [], _, _, h => absurd ((h x).1 (by simp)) (by simp)
  | x :: r, y :: s, h1, h2, h => by
    rw [List.pairwise_cons] at h1 h2
    have exy : x = y := by
      rcases List.mem_cons.1 ((h x).1 (by simp)) with e | e
      · exact e
      · rcases List.mem_cons.1 ((h y).2 (by simp)) with e2 | e2
        · exact e2.symm
        · have a1 := h2.1 x e
          have a2 := h1.1 y e2
          rw [aheadB_as a1] at a2
          cases a2
    subst exy
    refine congrArg _ (sorted_one h1.2 h2.2 (fun z => ?_))
    constructor
    · intro hz
      rcases List.mem_cons.1 ((h z).1 (List.mem_cons_of_mem _ hz)) with e | e
      · subst e
        have := h1.1 z hz
        rw [aheadB_irr] at this
        cases this
      · exact e
    · intro hz
      rcases List.mem_cons.1 ((h z).2 (List.mem_cons_of_mem _ hz)) with e | e
      · subst e
        have := h2.1 z hz
        rw [aheadB_irr] at this
        cases this
      · exact e

/-- Where the object of a name stands is the one place where a list is like it. -/
theorem at_unlike {o : Ob} {l : List Ob} (hn : l.Pairwise fun a b => ¬ (a.kind = b.kind ∧ a.name = b.name)) (i : Nat) (hi : i < l.length) : unlike o l[i] = decide ((i : Int) ≠ atL o.kind o.name l) := by
  have hun : ∀ x : Ob, unlike o x = !isAt o.kind o.name x := by
    intro x
    unfold unlike isAt
    unfold bne
    cases x.kind == o.kind <;> rfl
  rw [hun]
  cases hx : isAt o.kind o.name l[i] with
  | true =>
    have : atL o.kind o.name l = (i : Int) := by
      refine atL_hit hi (fun y hy => ?_) hx
      obtain ⟨j, hj, rfl⟩ := List.mem_take_iff_getElem.1 hy
      cases hyj : isAt o.kind o.name l[j] with
      | false => rfl
      | true =>
        exfalso
        have hji : j < i := by omega
        refine List.pairwise_iff_getElem.1 hn j i (by omega) hi hji ?_
        unfold isAt at hx hyj
        simp only [Bool.and_eq_true, beq_iff_eq] at hx hyj
        exact ⟨hyj.1.trans hx.1.symm, toList_inj (hyj.2.trans hx.2.symm)⟩
    simp [this]
  | false =>
    have : atL o.kind o.name l ≠ (i : Int) := by
      intro e
      unfold atL at e
      split at e
      · rename_i k hk
        have : k = i := by omega
        subst this
        obtain ⟨h1, h2, _⟩ := List.findIdx?_eq_some_iff_getElem.1 hk
        rw [h2] at hx
        cases hx
      · omega
    simp
    exact fun e => this e.symm

theorem atL_cases (kk : Int) (nm : ByteArray) (l : List Ob) : (∃ (i : Nat) (h : i < l.length), atL kk nm l = i ∧ l[i].kind = kk ∧ l[i].name = nm) ∨ (atL kk nm l = -1 ∧ ∀ x ∈ l, ¬ (x.kind = kk ∧ x.name = nm)) := by
  unfold atL
  cases h : l.findIdx? (isAt kk nm) with
  | some i =>
    obtain ⟨h1, h2, _⟩ := List.findIdx?_eq_some_iff_getElem.1 h
    unfold isAt at h2
    simp only [Bool.and_eq_true, beq_iff_eq] at h2
    exact Or.inl ⟨i, h1, rfl, h2.1, toList_inj h2.2⟩
  | none =>
    refine Or.inr ⟨rfl, fun x hx e => ?_⟩
    have := List.findIdx?_eq_none_iff.1 h x hx
    unfold isAt at this
    simp [e.1, e.2] at this

end Go.Proofs.YtdgfjneapialdaaGreatDoor.S

namespace Go.Proofs.YtdgfjneapialdaaGreatDoor.S
open Go Go.RowKit Go.Maps

/-- Block rb is a store of the reference: its states, its events; C: blocks that are another's. -/
structure IsRef (C : Nat → Prop) (w : World) (rb : Nat) (lim born : Int) (pv ev : Value) (sv : List Value) (past : List (List Ob)) (es : List (Int × Ob)) : Prop where
  blk : w.heap[rb]? = some (.cells #[.int .i64 lim, pv, ev, .int .i64 born] 151 (0, 0))
  op : w.ownsRow 0 44 1 pv sv.length sv
  oe : w.ownsRow 0 170 10 ev es.length (es.flatMap evP)
  ls : sv.length = past.length
  st : ∀ i (h : i < sv.length) (h' : i < past.length), w.ownsRow 0 84 9 sv[i] (past[i]).length (flatO past[i])
  c0 : ¬ C rb
  c1 : ∀ b, pv.ownBlock = some b → ¬ C b
  c2 : ∀ b, ev.ownBlock = some b → ¬ C b
  c3 : ∀ v ∈ sv, ∀ b, v.ownBlock = some b → ¬ C b

section
variable {C : Nat → Prop} {w w' : World} {rb : Nat} {lim born : Int} {pv ev : Value} {sv : List Value} {past : List (List Ob)} {es : List (Int × Ob)}
theorem IsRef.lt (h : IsRef C w rb lim born pv ev sv past es) : rb < w.heap.size := (Array.getElem?_eq_some_iff.1 h.blk).1
theorem IsRef.q0 (h : IsRef C w rb lim born pv ev sv past es) : w.cell? ⟨rb, 0, none⟩ = some (.int .i64 lim) := by simp [World.cell?, h.blk]
theorem IsRef.q1 (h : IsRef C w rb lim born pv ev sv past es) : w.cell? ⟨rb, 1, none⟩ = some pv := by simp [World.cell?, h.blk]
theorem IsRef.q2 (h : IsRef C w rb lim born pv ev sv past es) : w.cell? ⟨rb, 2, none⟩ = some ev := by simp [World.cell?, h.blk]
theorem IsRef.q3 (h : IsRef C w rb lim born pv ev sv past es) : w.cell? ⟨rb, 3, none⟩ = some (.int .i64 born) := by simp [World.cell?, h.blk]
theorem IsRef.fz (h : IsRef C w rb lim born pv ev sv past es) : ∀ o, w.frozen? ⟨rb, o, none⟩ = false := fun o => by simp [World.frozen?, h.blk]
theorem IsRef.keepW (h : IsRef C w rb lim born pv ev sv past es) (h0 : w'.heap[rb]? = w.heap[rb]?) (h1 : ∀ b, pv.ownBlock = some b → w'.heap[b]? = w.heap[b]?) (h2 : ∀ b, ev.ownBlock = some b → w'.heap[b]? = w.heap[b]?) (h3 : ∀ v ∈ sv, ∀ b, v.ownBlock = some b → w'.heap[b]? = w.heap[b]?) : IsRef C w' rb lim born pv ev sv past es :=
  ⟨h0.trans h.blk, own_keep h.op h1, own_keep h.oe h2, h.ls, fun i hi hi' => own_keep (h.st i hi hi') (h3 _ (List.getElem_mem hi)), h.c0, h.c1, h.c2, h.c3⟩
theorem IsRef.slt (h : IsRef C w rb lim born pv ev sv past es) : ∀ v ∈ sv, ∀ b, v.ownBlock = some b → b < w.heap.size := by
  intro v hv b e
  obtain ⟨i, hi, rfl⟩ := List.getElem_of_mem hv
  exact own_lt (h.st i hi (h.ls ▸ hi)) e
theorem IsRef.keep (h : IsRef C w rb lim born pv ev sv past es) (hk : ∀ k, k < w.heap.size → w'.heap[k]? = w.heap[k]?) : IsRef C w' rb lim born pv ev sv past es :=
  h.keepW (hk _ h.lt) (fun b e => hk b (own_lt h.op e)) (fun b e => hk b (own_lt h.oe e)) (fun v hv b e => hk b (h.slt v hv b e))
theorem IsRef.below (h : IsRef C w rb lim born pv ev sv past es) (k : Below w.heap.size w w') : IsRef C w' rb lim born pv ev sv past es := h.keep (fun i hi => k.block i hi)
theorem IsRef.alloc (h : IsRef C w rb lim born pv ev sv past es) (o : Obj) : IsRef C (w.alloc o) rb lim born pv ev sv past es := h.below ((Below.refl _ _).alloc (Nat.le_refl _) _)
theorem IsRef.drewN (h : IsRef C w rb lim born pv ev sv past es) (n : Nat) : IsRef C (w.drewN n) rb lim born pv ev sv past es := h.keep (fun _ _ => rfl)
theorem IsRef.kept {C' : Nat → Prop} (h : IsRef C w rb lim born pv ev sv past es) (k : KeptC C' w w') (hc : ∀ b, ¬ C b → b < w.heap.size → C' b) : IsRef C w' rb lim born pv ev sv past es :=
  h.keepW (k.block _ (hc _ h.c0 h.lt) h.lt) (fun b e => k.block b (hc b (h.c1 b e) (own_lt h.op e)) (own_lt h.op e)) (fun b e => k.block b (hc b (h.c2 b e) (own_lt h.oe e)) (own_lt h.oe e)) (fun v hv b e => k.block b (hc b (h.c3 v hv b e) (h.slt v hv b e)) (h.slt v hv b e))
theorem IsRef.more {C' : Nat → Prop} (h : IsRef C w rb lim born pv ev sv past es) (hc : ∀ b, b < w.heap.size → C' b → C b) : IsRef C' w rb lim born pv ev sv past es :=
  ⟨h.blk, h.op, h.oe, h.ls, h.st, fun e => h.c0 (hc _ h.lt e), fun b e c => h.c1 b e (hc b (own_lt h.op e) c), fun b e c => h.c2 b e (hc b (own_lt h.oe e) c), fun v hv b e c => h.c3 v hv b e (hc b (h.slt v hv b e) c)⟩
theorem IsRef.pl {sp : List Value} {nv : Value} {pre : List (List Ob)} {l : List Ob} (h : IsRef C w rb lim born pv ev (sp ++ [nv]) (pre ++ [l]) es) : sp.length = pre.length := by have := h.ls; simp at this; exact this
/-- The last state. -/
theorem IsRef.row {sp : List Value} {nv : Value} {pre : List (List Ob)} {l : List Ob} (h : IsRef C w rb lim born pv ev (sp ++ [nv]) (pre ++ [l]) es) : w.ownsRow 0 84 9 nv l.length (flatO l) := by
  have hp := h.pl
  have := h.st sp.length (by simp) (by simp [hp])
  simpa [hp] using this
theorem IsRef.last {sp : List Value} {nv : Value} {pre : List (List Ob)} {l : List Ob} (h : IsRef C w rb lim born pv ev (sp ++ [nv]) (pre ++ [l]) es) :
    ∃ g cap, pv = .slice (some ⟨g, 0, none⟩) (pre.length + 1) cap ∧ w.cell? ⟨g, pre.length, none⟩ = some nv := by
  have hp := h.pl
  have hop := h.op
  rcases hop.2 with ⟨_, h0⟩ | ⟨g, cap, cur, rfl, _⟩
  · simp at h0
  · refine ⟨g, cap, by simp [hp], ?_⟩
    have := hop.cells (g := g) rfl pre.length nv (by rw [← hp]; simp)
    rwa [Addr.add_lit, Nat.zero_add] at this
theorem IsRef.nlt {sp : List Value} {nv : Value} {pre : List (List Ob)} {l : List Ob} (h : IsRef C w rb lim born pv ev (sp ++ [nv]) (pre ++ [l]) es) : ∃ ad cap, nv = .slice ad l.length cap := own_form h.row
end

section
variable {C : Nat → Prop} {w : World} {rb : Nat} {lim born : Int} {pv ev nv : Value} {sp : List Value} {pre : List (List Ob)} {l : List Ob} {es : List (Int × Ob)}
set_option maxHeartbeats 400000 in
theorem version_any (h : IsRef C w rb lim born pv ev (sp ++ [nv]) (pre ++ [l]) es) (hb : pre.length ≤ 600) :
    Calls Tryz.prog 86 #[.pointer (some ⟨rb, 0, none⟩)] w fun e w' => e = .returned (.int .i64 (pre.length : Int)) ∧ w' = w := by
  obtain ⟨g, cap, e1, hc⟩ := h.last
  have q1 := h.q1
  have hlt := h.lt
  subst e1
  clear h
  go_enter Tryz.func86, Tryz.ntmps86
  go_wp2
  go_ret
  exact ⟨ret_int (by omega), rfl⟩
set_option maxHeartbeats 400000 in
theorem now_any (h : IsRef C w rb lim born pv ev (sp ++ [nv]) (pre ++ [l]) es) (hb : pre.length ≤ 600) :
    Calls Tryz.prog 118 #[.pointer (some ⟨rb, 0, none⟩)] w fun e w' => e = .returned nv ∧ ∃ n, w' = w.drewN n := by
  obtain ⟨g, cap, e1, hc⟩ := h.last
  have q1 := h.q1
  have hlt := h.lt
  obtain ⟨ad, cp, e2⟩ := own_form h.row
  have hn : ((pre.length + 1 : Nat) : Int) - 1 = (pre.length : Int) := by omega
  subst e1 e2
  clear h
  go_enter Tryz.func118, Tryz.ntmps118
  go_wp2_with fail
  go_quiet (fail)
  go_wp2
  go_ret
  exact ⟨rfl, _, rfl⟩
end

/-- What Get answers. -/
def getA (l : List Ob) (k : Int) (s : ByteArray) : Ob × Int := if h : (atL k s l).toNat < l.length then (if 0 ≤ atL k s l then (l[(atL k s l).toNat], 0) else (Ob.zero, 3)) else (Ob.zero, 3)
theorem getA_hit {l : List Ob} {k : Int} {s : ByteArray} {i : Nat} (hi : i < l.length) (h : atL k s l = i) : getA l k s = (l[i], 0) := by
  unfold getA
  simp [h, hi]
theorem getA_miss {l : List Ob} {k : Int} {s : ByteArray} (h : atL k s l = -1) : getA l k s = (Ob.zero, 3) := by
  unfold getA
  simp [h]

section
variable {C : Nat → Prop} {w : World} {rb : Nat} {lim born : Int} {pv ev nv : Value} {sp : List Value} {pre : List (List Ob)} {l : List Ob} {es : List (Int × Ob)}
set_option maxRecDepth 100000 in
set_option maxHeartbeats 400000 in
theorem rget_any (h : IsRef C w rb lim born pv ev (sp ++ [nv]) (pre ++ [l]) es) (hb : pre.length ≤ 600) (hl : l.length ≤ 10000) (hk : ∀ x ∈ l, 0 ≤ x.kind ∧ x.kind ≤ 255) (k : Int) (s : ByteArray) (h0 : 0 ≤ k) (h1 : k ≤ 255) :
    Calls Tryz.prog 53 #[.pointer (some ⟨rb, 0, none⟩), .int .u8 k, .string s] w fun e w' => e = .returned (.tuple #[.agg (getA l k s).1.arr, .int .i64 (getA l k s).2]) ∧ Below w.heap.size w w' := by
  obtain ⟨ad, cp, e2⟩ := own_form h.row
  have hn := now_any (h.alloc (.cells #[.int .u8 0, .string ⟨#[]⟩, .int .i64 0, .int .i64 0, .int .i64 0, .int .i64 0, .int .i64 0, .int .u8 0, .bool false] 84)) hb
  have hB1 : Below w.heap.size w (w.alloc (.cells #[.int .u8 0, .string ⟨#[]⟩, .int .i64 0, .int .i64 0, .int .i64 0, .int .i64 0, .int .i64 0, .int .u8 0, .bool false] 84)) := belowAl (Below.refl _ _) _
  have hat : ∀ m, _ := fun m => at_any ((w.alloc (.cells #[.int .u8 0, .string ⟨#[]⟩, .int .i64 0, .int .i64 0, .int .i64 0, .int .i64 0, .int .i64 0, .int .u8 0, .bool false] 84)).drewN m) 0 nv l k s (row_below h.row (belowDN hB1 m)) hl hk
  have HH : Hid _ := h
  have HB : Hid (pre.length ≤ 600) := hb
  have hcv : (k : Int) % 256 = k := by omega
  subst e2
  clear h hb
  rcases atL_cases k s l with ⟨i, hi, hatE, hx1, hx2⟩ | ⟨hatE, _⟩
  · rw [getA_hit hi hatE]
    rw [hatE] at hat
    obtain ⟨x, hx⟩ : ∃ x, x = l[i] := ⟨_, rfl⟩
    rw [← hx]
    have HX : Hid (x = l[i]) := hx
    clear hx hx1 hx2 hatE
    obtain ⟨a0, a1, a2, a3, a4, a5, a6, a7, a8⟩ := x
    simp only [Ob.arr]
    have hii : ¬ ((i : Int) < 0) := by omega
    have hil : (i : Int) < (l.length : Int) := by omega
    have HI : Hid (i < l.length) := hi
    go_enter Tryz.func53, Tryz.ntmps53
    go_wp2_with fail
    refine hn.mono ?_
    rintro e w1 ⟨rfl, n1, rfl⟩
    have hat1 := hat n1
    clear hn hat
    go_wp2_with fail
    refine hat1.mono ?_
    rintro e w2 ⟨rfl, hb2⟩
    clear hat1
    have hB2 : Hid (Below w.heap.size w w2) := (belowDN hB1 n1).trans (hb2.mono (belowDN hB1 n1).size)
    have hR2 := HH.out.below hB2.out
    have hn2 := now_any hR2 HB.out
    have hrow := hR2.row
    have hz : w.heap.size < w2.heap.size := by have := hb2.size; simp at this; omega
    have x6 : w2.heap[w.heap.size]? = some (.cells #[.int .u8 0, .string ⟨#[]⟩, .int .i64 0, .int .i64 0, .int .i64 0, .int .i64 0, .int .i64 0, .int .u8 0, .bool false] 84 (0, 0)) := (hb2.block _ (by simp)).trans (alloc_last w _)
    clear hb2 hR2
    obtain ⟨⟨z0, z1, z2, z3, z4, z5, z6, z7, z8⟩, zf⟩ := nine x6
    clear x6
    have hg : ∃ g, ad = some ⟨g, 0, none⟩ := by
      rcases hrow.2 with ⟨_, h2⟩ | ⟨g, cap', cur, h1, _⟩
      · omega
      · injection h1 with a; exact ⟨g, a⟩
    obtain ⟨g, rfl⟩ := hg
    have hc := row_cells hrow (Below.refl _ _) HI.out
    rw [← HX.out] at hc
    have p0 : w2.cell? ⟨g, i * 9, none⟩ = some (.int .u8 a0) := hc 0 _ (by omega) rfl
    have p1 : w2.cell? ⟨g, i * 9 + 1, none⟩ = some (.string a1) := hc 1 _ (by omega) rfl
    have p2 : w2.cell? ⟨g, i * 9 + 2, none⟩ = some (.int .i64 a2) := hc 2 _ (by omega) rfl
    have p3 : w2.cell? ⟨g, i * 9 + 3, none⟩ = some (.int .i64 a3) := hc 3 _ (by omega) rfl
    have p4 : w2.cell? ⟨g, i * 9 + 4, none⟩ = some (.int .i64 a4) := hc 4 _ (by omega) rfl
    have p5 : w2.cell? ⟨g, i * 9 + 5, none⟩ = some (.int .i64 a5) := hc 5 _ (by omega) rfl
    have p6 : w2.cell? ⟨g, i * 9 + 6, none⟩ = some (.int .i64 a6) := hc 6 _ (by omega) rfl
    have p7 : w2.cell? ⟨g, i * 9 + 7, none⟩ = some (.int .u8 a7) := hc 7 _ (by omega) rfl
    have p8 : w2.cell? ⟨g, i * 9 + 8, none⟩ = some (.bool a8) := hc 8 _ (by omega) rfl
    clear hc hrow
    go_wp2_with fail
    refine hn2.mono ?_
    rintro e w3 ⟨rfl, n3, rfl⟩
    clear hn2
    go_wp2
    refine bodyPost_ret (v := .tuple #[.agg #[.int .u8 a0, .string a1, .int .i64 a2, .int .i64 a3, .int .i64 a4, .int .i64 a5, .int .i64 a6, .int .u8 a7, .bool a8], .int .i64 0]) (by simp [results, Tryz.results53, go_sem, z0, z1, z2, z3, z4, z5, z6, z7, z8]) rfl ⟨rfl, ?_⟩
    rw [← set9_def]
    exact set9_below (belowDN hB2.out n3) (Nat.le_refl _) _ _ _ _ _ _ _ _ _
  · rw [getA_miss hatE]
    rw [hatE] at hat
    clear hatE
    simp only [Ob.arr, Ob.zero]
    go_enter Tryz.func53, Tryz.ntmps53
    go_wp2_with fail
    refine hn.mono ?_
    rintro e w1 ⟨rfl, n1, rfl⟩
    have hat1 := hat n1
    clear hn hat
    go_wp2_with fail
    refine hat1.mono ?_
    rintro e w2 ⟨rfl, hb2⟩
    clear hat1
    have hB2 : Hid (Below w.heap.size w w2) := (belowDN hB1 n1).trans (hb2.mono (belowDN hB1 n1).size)
    have hR2 := HH.out.below hB2.out
    have hn2 := now_any hR2 HB.out
    have hrow := hR2.row
    have hz : w.heap.size < w2.heap.size := by have := hb2.size; simp at this; omega
    have x6 : w2.heap[w.heap.size]? = some (.cells #[.int .u8 0, .string ⟨#[]⟩, .int .i64 0, .int .i64 0, .int .i64 0, .int .i64 0, .int .i64 0, .int .u8 0, .bool false] 84 (0, 0)) := (hb2.block _ (by simp)).trans (alloc_last w _)
    clear hb2 hR2
    obtain ⟨⟨z0, z1, z2, z3, z4, z5, z6, z7, z8⟩, zf⟩ := nine x6
    clear x6
    clear hrow hn2
    go_wp2
    refine bodyPost_ret (v := .tuple #[.agg #[.int .u8 0, .string ⟨#[]⟩, .int .i64 0, .int .i64 0, .int .i64 0, .int .i64 0, .int .i64 0, .int .u8 0, .bool false], .int .i64 3]) (by simp [results, Tryz.results53, go_sem, z0, z1, z2, z3, z4, z5, z6, z7, z8]) rfl ⟨rfl, ?_⟩
    rw [← set9_def]
    exact set9_below hB2.out (Nat.le_refl _) _ _ _ _ _ _ _ _ _
end

end Go.Proofs.YtdgfjneapialdaaGreatDoor.S

namespace Go.Proofs.YtdgfjneapialdaaGreatDoor.S
open Go Go.RowKit Go.Maps

/-- What target answers. -/
def tgtA (full : Bool) (l : List Ob) (k : Int) (s : ByteArray) (u v : Int) : Ob × Int :=
  if full then (Ob.zero, 6) else if (getA l k s).2 = 0 then (if isOtherB u (getA l k s).1.uid || isOtherB v (getA l k s).1.version then (Ob.zero, 4) else ((getA l k s).1, 0)) else (Ob.zero, 3)

section
variable {C : Nat → Prop} {w : World} {rb : Nat} {lim born : Int} {pv ev nv : Value} {sp : List Value} {pre : List (List Ob)} {l : List Ob} {es : List (Int × Ob)}
set_option maxRecDepth 100000 in
set_option maxHeartbeats 1000000 in
theorem target_full (h : IsRef C w rb lim born pv ev (sp ++ [nv]) (pre ++ [l]) es) (hb : pre.length = 600) (k : Int) (s : ByteArray) (u v : Int) :
    Calls Tryz.prog 124 #[.pointer (some ⟨rb, 0, none⟩), .int .u8 k, .string s, .int .i64 u, .int .i64 v] w fun e w' => e = .returned (.tuple #[.agg #[.int .u8 0, .string ⟨#[]⟩, .int .i64 0, .int .i64 0, .int .i64 0, .int .i64 0, .int .i64 0, .int .u8 0, .bool false], .int .i64 6]) ∧ Below w.heap.size w w' := by
  have hv := version_any (h.alloc (.cells #[.int .u8 0, .string ⟨#[]⟩, .int .i64 0, .int .i64 0, .int .i64 0, .int .i64 0, .int .i64 0, .int .u8 0, .bool false] 84)) (by omega)
  rw [hb] at hv
  clear h
  go_enter Tryz.func124, Tryz.ntmps124
  go_wp2_with fail
  refine hv.mono ?_
  rintro e w1 ⟨rfl, rfl⟩
  clear hv
  go_wp2
  refine bodyPost_ret (v := .tuple #[.agg #[.int .u8 0, .string ⟨#[]⟩, .int .i64 0, .int .i64 0, .int .i64 0, .int .i64 0, .int .i64 0, .int .u8 0, .bool false], .int .i64 6]) (by simp [results, Tryz.results124, go_sem]) rfl ⟨rfl, ?_⟩
  exact belowAl (Below.refl _ _) _

set_option maxRecDepth 100000 in
set_option maxHeartbeats 1000000 in
theorem target_miss (h : IsRef C w rb lim born pv ev (sp ++ [nv]) (pre ++ [l]) es) (hb : pre.length < 600) (hl : l.length ≤ 10000) (hk : ∀ x ∈ l, 0 ≤ x.kind ∧ x.kind ≤ 255) (k : Int) (s : ByteArray) (h0 : 0 ≤ k) (h1 : k ≤ 255) (u v : Int) (hA : getA l k s = (Ob.zero, 3)) :
    Calls Tryz.prog 124 #[.pointer (some ⟨rb, 0, none⟩), .int .u8 k, .string s, .int .i64 u, .int .i64 v] w fun e w' => e = .returned (.tuple #[.agg #[.int .u8 0, .string ⟨#[]⟩, .int .i64 0, .int .i64 0, .int .i64 0, .int .i64 0, .int .i64 0, .int .u8 0, .bool false], .int .i64 3]) ∧ Below w.heap.size w w' := by
  have hv := version_any (h.alloc (.cells #[.int .u8 0, .string ⟨#[]⟩, .int .i64 0, .int .i64 0, .int .i64 0, .int .i64 0, .int .i64 0, .int .u8 0, .bool false] 84)) (by omega)
  have hg := rget_any (h.alloc (.cells #[.int .u8 0, .string ⟨#[]⟩, .int .i64 0, .int .i64 0, .int .i64 0, .int .i64 0, .int .i64 0, .int .u8 0, .bool false] 84)) (by omega) hl hk k s h0 h1
  rw [hA] at hg
  simp only [Ob.arr, Ob.zero] at hg
  have hd : decide ((pre.length : Int) ≥ 600) = false := decide_eq_false (by omega)
  clear h hl hk hA
  go_enter Tryz.func124, Tryz.ntmps124
  go_wp2_with fail
  refine hv.mono ?_
  rintro e w1 ⟨rfl, rfl⟩
  clear hv
  go_wp2_with fail
  refine hg.mono ?_
  rintro e w1 ⟨rfl, hb1⟩
  have hz := lt_of_back hb1
  obtain ⟨hcell, hfz⟩ := bcell hb1
  clear hg
  go_wp2
  refine bodyPost_ret (v := .tuple #[.agg #[.int .u8 0, .string ⟨#[]⟩, .int .i64 0, .int .i64 0, .int .i64 0, .int .i64 0, .int .i64 0, .int .u8 0, .bool false], .int .i64 3]) (by simp [results, Tryz.results124, go_sem, hcell, hz]) rfl ⟨rfl, ?_⟩
  rw [← set9_def]
  exact belowAl (set9_below (back9 hb1) (Nat.le_refl _) _ _ _ _ _ _ _ _ _) _

set_option maxRecDepth 100000 in
set_option maxHeartbeats 1000000 in
theorem target_conf (h : IsRef C w rb lim born pv ev (sp ++ [nv]) (pre ++ [l]) es) (hb : pre.length < 600) (hl : l.length ≤ 10000) (hk : ∀ x ∈ l, 0 ≤ x.kind ∧ x.kind ≤ 255) (k : Int) (s : ByteArray) (h0 : 0 ≤ k) (h1 : k ≤ 255) (u v : Int) (a0 : Int) (a1 : ByteArray) (a2 a3 a4 a5 a6 a7 : Int) (a8 : Bool) (hA : getA l k s = (⟨a0, a1, a2, a3, a4, a5, a6, a7, a8⟩, 0)) (HE : (isOtherB u a2 || isOtherB v a3) = true) :
    Calls Tryz.prog 124 #[.pointer (some ⟨rb, 0, none⟩), .int .u8 k, .string s, .int .i64 u, .int .i64 v] w fun e w' => e = .returned (.tuple #[.agg #[.int .u8 0, .string ⟨#[]⟩, .int .i64 0, .int .i64 0, .int .i64 0, .int .i64 0, .int .i64 0, .int .u8 0, .bool false], .int .i64 4]) ∧ Below w.heap.size w w' := by
  have hv := version_any (h.alloc (.cells #[.int .u8 0, .string ⟨#[]⟩, .int .i64 0, .int .i64 0, .int .i64 0, .int .i64 0, .int .i64 0, .int .u8 0, .bool false] 84)) (by omega)
  have hg := rget_any (h.alloc (.cells #[.int .u8 0, .string ⟨#[]⟩, .int .i64 0, .int .i64 0, .int .i64 0, .int .i64 0, .int .i64 0, .int .u8 0, .bool false] 84)) (by omega) hl hk k s h0 h1
  rw [hA] at hg
  simp only [Ob.arr] at hg
  have hd : decide ((pre.length : Int) ≥ 600) = false := decide_eq_false (by omega)
  clear h hl hk hA
  go_enter Tryz.func124, Tryz.ntmps124
  go_wp2_with fail
  refine hv.mono ?_
  rintro e w1 ⟨rfl, rfl⟩
  clear hv
  go_wp2_with fail
  refine hg.mono ?_
  rintro e w1 ⟨rfl, hb1⟩
  have hz := lt_of_back hb1
  obtain ⟨hcell, hfz⟩ := bcell hb1
  clear hg
  cases hu0 : (u != 0) with
  | true =>
    cases hu1 : (u != a2) with
    | true =>
      go_wp2
      refine bodyPost_ret (v := .tuple #[.agg #[.int .u8 0, .string ⟨#[]⟩, .int .i64 0, .int .i64 0, .int .i64 0, .int .i64 0, .int .i64 0, .int .u8 0, .bool false], .int .i64 4]) (by simp [results, Tryz.results124, go_sem, hcell, hz]) rfl ⟨rfl, ?_⟩
      rw [← set9_def]
      exact belowAl (set9_below (back9 hb1) (Nat.le_refl _) _ _ _ _ _ _ _ _ _) _
    | false =>
      cases hv0 : (v != 0) with
      | true =>
        cases hv1 : (v != a3) with
        | true =>
          go_wp2
          refine bodyPost_ret (v := .tuple #[.agg #[.int .u8 0, .string ⟨#[]⟩, .int .i64 0, .int .i64 0, .int .i64 0, .int .i64 0, .int .i64 0, .int .u8 0, .bool false], .int .i64 4]) (by simp [results, Tryz.results124, go_sem, hcell, hz]) rfl ⟨rfl, ?_⟩
          rw [← set9_def]
          exact belowAl (set9_below (back9 hb1) (Nat.le_refl _) _ _ _ _ _ _ _ _ _) _
        | false =>
          simp [isOtherB, hu1, hv1] at HE
      | false =>
        simp [isOtherB, hu1, hv0] at HE
  | false =>
    cases hv0 : (v != 0) with
    | true =>
      cases hv1 : (v != a3) with
      | true =>
        go_wp2
        refine bodyPost_ret (v := .tuple #[.agg #[.int .u8 0, .string ⟨#[]⟩, .int .i64 0, .int .i64 0, .int .i64 0, .int .i64 0, .int .i64 0, .int .u8 0, .bool false], .int .i64 4]) (by simp [results, Tryz.results124, go_sem, hcell, hz]) rfl ⟨rfl, ?_⟩
        rw [← set9_def]
        exact belowAl (set9_below (back9 hb1) (Nat.le_refl _) _ _ _ _ _ _ _ _ _) _
      | false =>
        simp [isOtherB, hu0, hv1] at HE
    | false =>
      simp [isOtherB, hu0, hv0] at HE

set_option maxRecDepth 100000 in
set_option maxHeartbeats 1000000 in
theorem target_ok (h : IsRef C w rb lim born pv ev (sp ++ [nv]) (pre ++ [l]) es) (hb : pre.length < 600) (hl : l.length ≤ 10000) (hk : ∀ x ∈ l, 0 ≤ x.kind ∧ x.kind ≤ 255) (k : Int) (s : ByteArray) (h0 : 0 ≤ k) (h1 : k ≤ 255) (u v : Int) (a0 : Int) (a1 : ByteArray) (a2 a3 a4 a5 a6 a7 : Int) (a8 : Bool) (hA : getA l k s = (⟨a0, a1, a2, a3, a4, a5, a6, a7, a8⟩, 0)) (HE : (isOtherB u a2 || isOtherB v a3) = false) :
    Calls Tryz.prog 124 #[.pointer (some ⟨rb, 0, none⟩), .int .u8 k, .string s, .int .i64 u, .int .i64 v] w fun e w' => e = .returned (.tuple #[.agg #[.int .u8 a0, .string a1, .int .i64 a2, .int .i64 a3, .int .i64 a4, .int .i64 a5, .int .i64 a6, .int .u8 a7, .bool a8], .int .i64 0]) ∧ Below w.heap.size w w' := by
  have hv := version_any (h.alloc (.cells #[.int .u8 0, .string ⟨#[]⟩, .int .i64 0, .int .i64 0, .int .i64 0, .int .i64 0, .int .i64 0, .int .u8 0, .bool false] 84)) (by omega)
  have hg := rget_any (h.alloc (.cells #[.int .u8 0, .string ⟨#[]⟩, .int .i64 0, .int .i64 0, .int .i64 0, .int .i64 0, .int .i64 0, .int .u8 0, .bool false] 84)) (by omega) hl hk k s h0 h1
  rw [hA] at hg
  simp only [Ob.arr] at hg
  have hd : decide ((pre.length : Int) ≥ 600) = false := decide_eq_false (by omega)
  clear h hl hk hA
  go_enter Tryz.func124, Tryz.ntmps124
  go_wp2_with fail
  refine hv.mono ?_
  rintro e w1 ⟨rfl, rfl⟩
  clear hv
  go_wp2_with fail
  refine hg.mono ?_
  rintro e w1 ⟨rfl, hb1⟩
  have hz := lt_of_back hb1
  obtain ⟨hcell, hfz⟩ := bcell hb1
  clear hg
  cases hu0 : (u != 0) with
  | true =>
    cases hu1 : (u != a2) with
    | true =>
      simp [isOtherB, hu0, hu1] at HE
    | false =>
      cases hv0 : (v != 0) with
      | true =>
        cases hv1 : (v != a3) with
        | true =>
          simp [isOtherB, hu1, hv0, hv1] at HE
        | false =>
          go_wp2
          refine bodyPost_ret (v := .tuple #[.agg #[.int .u8 a0, .string a1, .int .i64 a2, .int .i64 a3, .int .i64 a4, .int .i64 a5, .int .i64 a6, .int .u8 a7, .bool a8], .int .i64 0]) (by simp [results, Tryz.results124, go_sem, hcell, hz]) rfl ⟨rfl, ?_⟩
          rw [← set9_def]
          exact belowAl (set9_below (back9 hb1) (Nat.le_refl _) _ _ _ _ _ _ _ _ _) _
      | false =>
        go_wp2
        refine bodyPost_ret (v := .tuple #[.agg #[.int .u8 a0, .string a1, .int .i64 a2, .int .i64 a3, .int .i64 a4, .int .i64 a5, .int .i64 a6, .int .u8 a7, .bool a8], .int .i64 0]) (by simp [results, Tryz.results124, go_sem, hcell, hz]) rfl ⟨rfl, ?_⟩
        rw [← set9_def]
        exact belowAl (set9_below (back9 hb1) (Nat.le_refl _) _ _ _ _ _ _ _ _ _) _
  | false =>
    cases hv0 : (v != 0) with
    | true =>
      cases hv1 : (v != a3) with
      | true =>
        simp [isOtherB, hu0, hv0, hv1] at HE
      | false =>
        go_wp2
        refine bodyPost_ret (v := .tuple #[.agg #[.int .u8 a0, .string a1, .int .i64 a2, .int .i64 a3, .int .i64 a4, .int .i64 a5, .int .i64 a6, .int .u8 a7, .bool a8], .int .i64 0]) (by simp [results, Tryz.results124, go_sem, hcell, hz]) rfl ⟨rfl, ?_⟩
        rw [← set9_def]
        exact belowAl (set9_below (back9 hb1) (Nat.le_refl _) _ _ _ _ _ _ _ _ _) _
    | false =>
      go_wp2
      refine bodyPost_ret (v := .tuple #[.agg #[.int .u8 a0, .string a1, .int .i64 a2, .int .i64 a3, .int .i64 a4, .int .i64 a5, .int .i64 a6, .int .u8 a7, .bool a8], .int .i64 0]) (by simp [results, Tryz.results124, go_sem, hcell, hz]) rfl ⟨rfl, ?_⟩
      rw [← set9_def]
      exact belowAl (set9_below (back9 hb1) (Nat.le_refl _) _ _ _ _ _ _ _ _ _) _

/-- What target answers, in all cases. -/
theorem target_any (h : IsRef C w rb lim born pv ev (sp ++ [nv]) (pre ++ [l]) es) (hb : pre.length ≤ 600) (hl : l.length ≤ 10000) (hk : ∀ x ∈ l, 0 ≤ x.kind ∧ x.kind ≤ 255) (k : Int) (s : ByteArray) (h0 : 0 ≤ k) (h1 : k ≤ 255) (u v : Int) :
    Calls Tryz.prog 124 #[.pointer (some ⟨rb, 0, none⟩), .int .u8 k, .string s, .int .i64 u, .int .i64 v] w fun e w' => e = .returned (.tuple #[.agg (tgtA (decide (pre.length = 600)) l k s u v).1.arr, .int .i64 (tgtA (decide (pre.length = 600)) l k s u v).2]) ∧ Below w.heap.size w w' := by
  by_cases hf : pre.length = 600
  · rw [decide_eq_true hf]
    exact target_full h hf k s u v
  · rw [decide_eq_false hf]
    rcases atL_cases k s l with ⟨i, hi, hat, hx1, hx2⟩ | ⟨hat, _⟩
    · have hA := getA_hit hi hat
      obtain ⟨x, hx⟩ : ∃ x, x = l[i] := ⟨_, rfl⟩
      rw [← hx] at hA
      obtain ⟨a0, a1, a2, a3, a4, a5, a6, a7, a8⟩ := x
      cases hE : (isOtherB u a2 || isOtherB v a3) with
      | true =>
        refine (target_conf h (by omega) hl hk k s h0 h1 u v a0 a1 a2 a3 a4 a5 a6 a7 a8 hA hE).mono ?_
        rintro e w' ⟨he, hb'⟩
        refine ⟨?_, hb'⟩
        rw [he]
        unfold tgtA
        rw [hA]
        simp [hE, Ob.arr, Ob.zero]
      | false =>
        refine (target_ok h (by omega) hl hk k s h0 h1 u v a0 a1 a2 a3 a4 a5 a6 a7 a8 hA hE).mono ?_
        rintro e w' ⟨he, hb'⟩
        refine ⟨?_, hb'⟩
        rw [he]
        unfold tgtA
        rw [hA]
        simp [hE, Ob.arr]
    · have hA := getA_miss hat
      refine (target_miss h (by omega) hl hk k s h0 h1 u v hA).mono ?_
      rintro e w' ⟨he, hb'⟩
      refine ⟨?_, hb'⟩
      rw [he]
      unfold tgtA
      rw [hA]
      rfl
end

end Go.Proofs.YtdgfjneapialdaaGreatDoor.S

namespace Go.Proofs.YtdgfjneapialdaaGreatDoor.S
open Go Go.RowKit Go.Maps

theorem info44 : (Tryz.prog.info? 44).map (fun i => (i.zero, i.size, i.bytes)) = some (some (.slice none 0 0), 1, 24) := by kernel_rfl

theorem cells_new (w : World) (A : Array Value) (t : TypeId) : ∀ j u, A.toList[j]? = some u → (w.alloc (.cells A t)).cell? ((⟨w.heap.size, 0, none⟩ : Addr).add j) = some u := by
  intro j u h
  rw [Addr.add_lit, Nat.zero_add]
  simp only [World.cell?, (MapKept.heap_alloc w (.cells A t)).1]
  simpa using h

section
variable {ops : Array Oper} {rest : List Oper} {o : Oper} {a : Act} {Q : Exit → Act → World → Prop}
/-- One object more at the end of a row. -/
theorem push_ob (w : World) {W : World} (y : Ob) (hW : W = w.alloc (.cells y.arr 84)) (hgd : o.guard = none) (s x : Operand) (ho : o.op = .call { callee := .builtin .append, args := #[s, x], argTypes := #[44, 44] }) (base : Nat) (v : Value) (L : List Ob)
    (hs : a.eval s = v) (hx : a.eval x = .slice (some ⟨w.heap.size, 0, none⟩) 1 1) (hrow : w.ownsRow base 84 9 v L.length (flatO L)) (hl : L.length ≤ 100000) (hbase : base ≤ w.heap.size)
    (h : ∀ g cap w', w'.ownsRow base 84 9 (.slice (some ⟨g, 0, none⟩) (L.length + 1) cap) (L ++ [y]).length (flatO (L ++ [y])) → (w.alloc (.cells y.arr 84)).grownBy w' v.ownBlock → (v.ownBlock = some g ∨ g = w.heap.size + 1) → g < w'.heap.size → wpList Tryz.prog ops Q rest (a.put o.dst (.slice (some ⟨g, 0, none⟩) (L.length + 1) cap)) w') :
    wpList Tryz.prog ops Q (o :: rest) a W := by
  subst hW
  obtain ⟨i0, hi, hz0, hz1, hz2⟩ := info_parts info29
  refine wpList_append_lies _ hgd s x 44 ho base 84 i0 _ 9 72 Tryz.underlying44 hi hz0 hz1 hz2 rfl (by decide) v _ _ hs (hrow.alloc _) ⟨w.heap.size, 0, none⟩ 1 1 y.arr.toList hx rfl (cells_new w y.arr 84) (arr_one y) (by decide) (by unfold maxLen; omega) (by omega) (by simp; omega) (w.heap.size + 1) (by simp) ?_
  intro g cap w' h1 h2 h3 h4
  refine h g cap w' ?_ h2 h3 h4
  rw [List.length_append, flatO_snoc]
  exact h1
theorem evP_one (x : Int × Ob) : ∀ u ∈ evP x, u.oneCell' = true := by
  intro u hu
  simp only [evP, evOb, evCells, List.mem_cons, List.not_mem_nil, or_false] at hu
  rcases hu with rfl | rfl | rfl | rfl | rfl | rfl | rfl | rfl | rfl | rfl <;> rfl
theorem evs_snoc (es : List (Int × Ob)) (x : Int × Ob) : (es ++ [x]).flatMap evP = es.flatMap evP ++ evP x := by simp
/-- One event more. -/
theorem push_ev (w : World) {W : World} (y : Int × Ob) (hW : W = w.alloc (.cells (evP y).toArray 170)) (hgd : o.guard = none) (s x : Operand) (ho : o.op = .call { callee := .builtin .append, args := #[s, x], argTypes := #[139, 139] }) (base : Nat) (v : Value) (L : List (Int × Ob))
    (hs : a.eval s = v) (hx : a.eval x = .slice (some ⟨w.heap.size, 0, none⟩) 1 1) (hrow : w.ownsRow base 170 10 v L.length (L.flatMap evP)) (hl : L.length ≤ 100000) (hbase : base ≤ w.heap.size)
    (h : ∀ g cap w', w'.ownsRow base 170 10 (.slice (some ⟨g, 0, none⟩) (L.length + 1) cap) (L ++ [y]).length ((L ++ [y]).flatMap evP) → (w.alloc (.cells (evP y).toArray 170)).grownBy w' v.ownBlock → (v.ownBlock = some g ∨ g = w.heap.size + 1) → g < w'.heap.size → wpList Tryz.prog ops Q rest (a.put o.dst (.slice (some ⟨g, 0, none⟩) (L.length + 1) cap)) w') :
    wpList Tryz.prog ops Q (o :: rest) a W := by
  subst hW
  obtain ⟨i0, hi, hz0, hz1, hz2⟩ := info_parts info42
  refine wpList_append_lies _ hgd s x 139 ho base 170 i0 _ 10 80 Tryz.underlying139 hi hz0 hz1 hz2 rfl (by decide) v _ _ hs (hrow.alloc _) ⟨w.heap.size, 0, none⟩ 1 1 (evP y) hx rfl (cells_new w (evP y).toArray 170) (evP_one y) (by decide) (by unfold maxLen; omega) (by omega) (by simp; omega) (w.heap.size + 1) (by simp) ?_
  intro g cap w' h1 h2 h3 h4
  refine h g cap w' ?_ h2 h3 h4
  rw [List.length_append, evs_snoc]
  exact h1
/-- One list more in a list of lists. -/
theorem push_list (w : World) {W : World} (y : Value) (hW : W = w.alloc (.cells #[y] 44)) (hgd : o.guard = none) (s x : Operand) (ho : o.op = .call { callee := .builtin .append, args := #[s, x], argTypes := #[72, 72] }) (base : Nat) (v : Value) (L : List Value)
    (hs : a.eval s = v) (hx : a.eval x = .slice (some ⟨w.heap.size, 0, none⟩) 1 1) (hrow : w.ownsRow base 44 1 v L.length L) (hl : L.length ≤ 4000000000100) (hbase : base ≤ w.heap.size) (hy : y.oneCell' = true)
    (h : ∀ g cap w', w'.ownsRow base 44 1 (.slice (some ⟨g, 0, none⟩) (L.length + 1) cap) (L ++ [y]).length (L ++ [y]) → (w.alloc (.cells #[y] 44)).grownBy w' v.ownBlock → (v.ownBlock = some g ∨ g = w.heap.size + 1) → g < w'.heap.size → wpList Tryz.prog ops Q rest (a.put o.dst (.slice (some ⟨g, 0, none⟩) (L.length + 1) cap)) w') :
    wpList Tryz.prog ops Q (o :: rest) a W := by
  subst hW
  obtain ⟨i0, hi, hz0, hz1, hz2⟩ := info_parts info44
  refine wpList_append_lies _ hgd s x 72 ho base 44 i0 _ 1 24 Tryz.underlying72 hi hz0 hz1 hz2 rfl (by decide) v _ _ hs (hrow.alloc _) ⟨w.heap.size, 0, none⟩ 1 1 [y] hx rfl (cells_new w #[y] 44) (fun u hu => by simp at hu; subst hu; exact hy) (by decide) (by unfold maxLen; omega) (by omega) (by simp; omega) (w.heap.size + 1) (by simp) ?_
  intro g cap w' h1 h2 h3 h4
  refine h g cap w' ?_ h2 h3 h4
  rw [List.length_append]
  exact h1
end

/-- A state more, an event more. -/
theorem IsRef.wrote {C : Nat → Prop} {w w' : World} {rb : Nat} {lim born : Int} {pv ev : Value} {sv : List Value} {past : List (List Ob)} {es : List (Int × Ob)} (h : IsRef C w rb lim born pv ev sv past es) (hC : ∀ b, C b → b < w.heap.size)
    {pv' ev' nv : Value} {l : List Ob} {x : Int × Ob} (hblk : w'.heap[rb]? = some (.cells #[.int .i64 lim, pv', ev', .int .i64 born] 151 (0, 0)))
    (hp : w'.ownsRow 0 44 1 pv' (sv ++ [nv]).length (sv ++ [nv])) (he : w'.ownsRow 0 170 10 ev' (es ++ [x]).length ((es ++ [x]).flatMap evP)) (hn : w'.ownsRow w.heap.size 84 9 nv l.length (flatO l))
    (hpn : ∀ b, pv'.ownBlock = some b → pv.ownBlock = some b ∨ w.heap.size ≤ b) (hen : ∀ b, ev'.ownBlock = some b → ev.ownBlock = some b ∨ w.heap.size ≤ b)
    (hk : ∀ v ∈ sv, ∀ b, v.ownBlock = some b → w'.heap[b]? = w.heap[b]?) : IsRef C w' rb lim born pv' ev' (sv ++ [nv]) (past ++ [l]) (es ++ [x]) := by
  refine ⟨hblk, hp, he, by simp [h.ls], ?_, h.c0, ?_, ?_, ?_⟩
  · intro i hi hi'
    by_cases e : i < sv.length
    · have e' : i < past.length := h.ls ▸ e
      have := own_keep (h.st i e e') (hk _ (List.getElem_mem e))
      rw [List.getElem_append_left e]
      simp only [List.getElem_append_left e']
      exact this
    · have e1 : i = sv.length := by simp at hi; omega
      subst e1
      have hls := h.ls
      simp [hls]
      exact own_mono hn (Nat.zero_le _)
  · intro b e c
    rcases hpn b e with e | e
    · exact h.c1 b e c
    · have := hC b c; omega
  · intro b e c
    rcases hen b e with e | e
    · exact h.c2 b e c
    · have := hC b c; omega
  · intro v hv b e c
    rcases List.mem_append.1 hv with hv | hv
    · exact h.c3 v hv b e c
    · simp at hv
      subst hv
      have h1 := (hn.lt b e).1
      have := hC b c
      omega

end Go.Proofs.YtdgfjneapialdaaGreatDoor.S
