import Derived.Test.YtdgfjneapialdaaGreatDoorMa
namespace Go.Proofs.YtdgfjneapialdaaGreatDoor
open Go Go.RowKit Go.Maps Go.Lib Go.Sort

def Args (own : Nat → Nat) (w : World) (b : Nat) : Prop := b < w.heap.size ∧ own b = ARG
/-- The argument's blocks stay, and the old blocks stay whose they are. -/
structure Moves (own : Nat → Nat) (w : World) (own' : Nat → Nat) (w' : World) : Prop where
  kept : KeptC (Args own w) w w'
  old : ∀ b, b < w.heap.size → own' b = own b
theorem Moves.trans {own own1 own2 : Nat → Nat} {w w1 w2 : World} (h : Moves own w own1 w1) (k : Moves own1 w1 own2 w2) : Moves own w own2 w2 :=
  ⟨h.kept.trans (k.kept.sub (fun b hb => ⟨Nat.lt_of_lt_of_le hb.1 h.kept.size, (h.old b hb.1).trans hb.2⟩)), fun b hb => (k.old b (Nat.lt_of_lt_of_le hb h.kept.size)).trans (h.old b hb)⟩
theorem Moves.call {own : Nat → Nat} {w w' : World} {a : Nat} (ha : a < ARG) (k : KeptC (Others own w a) w w') : Moves own w (ownNew own w a) w' :=
  ⟨k.sub (fun b hb => ⟨hb.1, fun e => by have := hb.2; omega⟩), fun b hb => ownNew_old hb⟩
theorem Moves.below {own : Nat → Nat} {w w' : World} (k : Below w.heap.size w w') : Moves own w (ownNew own w 0) w' := Moves.call (by unfold ARG; omega) (KeptC.of_below k rfl)
theorem Moves.belowA {own : Nat → Nat} {w w' : World} (a : Nat) (k : Below w.heap.size w w') : Moves own w (ownNew own w a) w' := ⟨KeptC.of_below k rfl, fun _ hb => ownNew_old hb⟩
theorem Moves.refl (own : Nat → Nat) (w : World) : Moves own w own w := ⟨KeptC.refl _ _, fun _ _ => rfl⟩

/-- All that a script has: what is its own, and its pairs of queues, but for those that H names. -/
structure Inv (own : Nat → Nat) (U : List ByteArray) (w : World) (wb : Nat) (q bw bd : Value) (ws ds : List Value) (ps : List (Nat × Nat)) (m1 m2 n : Nat) (H : Nat → Prop) : Prop where
  desk : Desk own w wb q bw bd ws ds ps m1 m2
  th : ∀ i (h : i < ps.length), ¬ H i → Thing own U w i ps[i].1 ps[i].2 n
def none0 : Nat → Prop := fun _ => False

section
variable {own : Nat → Nat} {U : List ByteArray} {w w' : World} {wb : Nat} {q bw bd : Value} {ws ds : List Value} {ps : List (Nat × Nat)} {m1 m2 n : Nat} {H : Nat → Prop}
theorem Inv.below (h : Inv own U w wb q bw bd ws ds ps m1 m2 n H) (k : Below w.heap.size w w') : Inv (ownNew own w 0) U w' wb q bw bd ws ds ps m1 m2 n H :=
  ⟨h.desk.below k, fun i hi hH => (h.th i hi hH).other (by omega) (by omega) (KeptC.of_below k rfl)⟩
theorem Inv.belowA (h : Inv own U w wb q bw bd ws ds ps m1 m2 n H) (hps : ps.length ≤ 2000000000000) (k : Below w.heap.size w w') : Inv (ownNew own w ARG) U w' wb q bw bd ws ds ps m1 m2 n H :=
  ⟨h.desk.below k, fun i hi hH => (h.th i hi hH).other (by unfold ARG; omega) (by unfold ARG; omega) (KeptC.of_below k rfl)⟩
theorem Inv.more (h : Inv own U w wb q bw bd ws ds ps m1 m2 n H) : Inv own U w wb q bw bd ws ds ps m1 m2 (n + 1) H :=
  ⟨h.desk, fun i hi hH => (h.th i hi hH).more⟩
/-- A call on a thing that is left out. -/
theorem Inv.call (h : Inv own U w wb q bw bd ws ds ps m1 m2 n H) {a : Nat} (ha : a ≠ 0) (ha2 : a < ARG) (hH : ∀ i, i < ps.length → ¬ H i → a ≠ 2 * i + 1 ∧ a ≠ 2 * i + 2) (k : KeptC (Others own w a) w w') : Inv (ownNew own w a) U w' wb q bw bd ws ds ps m1 m2 n H :=
  ⟨h.desk.other ha ha2 k, fun i hi hi2 => (h.th i hi hi2).other (hH i hi hi2).1 (hH i hi hi2).2 k⟩
theorem Inv.hole (h : Inv own U w wb q bw bd ws ds ps m1 m2 n none0) (i : Nat) : Inv own U w wb q bw bd ws ds ps m1 m2 n fun j => j = i :=
  ⟨h.desk, fun j hj _ => h.th j hj id⟩
theorem Inv.fill {i : Nat} (h : Inv own U w wb q bw bd ws ds ps m1 m2 n fun j => j = i) (hi : i < ps.length) (ht : Thing own U w i ps[i].1 ps[i].2 n) : Inv own U w wb q bw bd ws ds ps m1 m2 n none0 :=
  ⟨h.desk, fun j hj _ => by
    by_cases e : j = i
    · subst e; exact ht
    · exact h.th j hj e⟩
/-- Both calls on the i-th pair. -/
theorem Inv.pair (h : Inv own U w wb q bw bd ws ds ps m1 m2 n none0) {i : Nat} (hA : 2 * i + 2 < ARG) (hi : i < ps.length) {w1 : World} (k1 : KeptC (Others own w (2 * i + 1)) w w1) (k2 : KeptC (Others (ownNew own w (2 * i + 1)) w1 (2 * i + 2)) w1 w') {qb rb : Nat} (hq : qb = ps[i].1) (hr : rb = ps[i].2) (ht : Thing (ownNew (ownNew own w (2 * i + 1)) w1 (2 * i + 2)) U w' i qb rb (n + 1)) :
    Inv (ownNew (ownNew own w (2 * i + 1)) w1 (2 * i + 2)) U w' wb q bw bd ws ds ps m1 m2 (n + 1) none0 :=
  ((((h.hole i).call (by omega) (by omega) (fun j _ hj => ⟨by omega, by omega⟩) k1).call (by omega) hA (fun j _ hj => ⟨by omega, by omega⟩) k2).more).fill hi (by subst hq hr; exact ht)
theorem Moves.pair {i : Nat} (hi : 2 * i + 2 < ARG) {w1 : World} (k1 : KeptC (Others own w (2 * i + 1)) w w1) (k2 : KeptC (Others (ownNew own w (2 * i + 1)) w1 (2 * i + 2)) w1 w') : Moves own w (ownNew (ownNew own w (2 * i + 1)) w1 (2 * i + 2)) w' :=
  (Moves.call (by omega) k1).trans (Moves.call hi k2)
end

/-- What is to be said of a step: it answers true, and all is as it should be. -/
def Went (own : Nat → Nat) (U : List ByteArray) (w : World) (wb : Nat) (q : Value) (ps : List (Nat × Nat)) (m n : Nat) (e : Ending) (w' : World) : Prop :=
  e = .returned (.bool true) ∧ ∃ own' bw bd ws ds m', Inv own' U w' wb q bw bd ws ds ps m' m' n none0 ∧ m' ≤ m ∧ Moves own w own' w'

/-- A step of the script. -/
structure St where
  k : Int
  on : Int
  a : Int
  b : Int
  s : ByteArray
  o0 : Int
  o1 : ByteArray
  o2 : Int
  o3 : Int
  o4 : Int
  o5 : Int
  o6 : Int
  o7 : Int
  o8 : Bool
  c0 : Int
  c1 : Int
  c2 : Int
  p0 : Int
  p1 : ByteArray
  p2 : Int
  p3 : Int
def St.arr (t : St) : Array Value := #[.int .i64 t.k, .int .i64 t.on, .int .i64 t.a, .int .i64 t.b, .string t.s, .int .u8 t.o0, .string t.o1, .int .i64 t.o2, .int .i64 t.o3, .int .i64 t.o4, .int .i64 t.o5, .int .i64 t.o6, .int .u8 t.o7, .bool t.o8, .int .i64 t.c0, .int .i64 t.c1, .int .i64 t.c2, .int .u8 t.p0, .string t.p1, .int .i64 t.p2, .int .i64 t.p3]

theorem pre_err {own : Nat → Nat} {U : List ByteArray} {w : World} {i qb rb n : Nat} (h : Thing own U w i qb rb n) : qb < w.heap.size ∧ rb < w.heap.size := by
  obtain ⟨s, r, hb, _, _⟩ := h
  obtain ⟨pm, dm, fm, rv, hq⟩ := hb.qs
  obtain ⟨v1, v2, v3, v4, v5, hr⟩ := hb.rs
  exact ⟨hq.lt, hr.lt⟩

end Go.Proofs.YtdgfjneapialdaaGreatDoor
