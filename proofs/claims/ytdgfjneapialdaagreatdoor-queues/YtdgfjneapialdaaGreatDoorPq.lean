import Derived.Test.YtdgfjneapialdaaGreatDoorPy
import Derived.Test.YtdgfjneapialdaaGreatDoorQo
namespace Go.Proofs.YtdgfjneapialdaaGreatDoor
open Go Go.RowKit Go.Maps Go.Lib Go.Sort

section
variable {own : Nat → Nat} {U : List ByteArray} {w w' : World} {i qb rb n : Nat}
/-- Told: both tell the same. -/
theorem pair_told (h : Thing own U w i qb rb n) (hU : Keys U) :
    Calls Tryz.prog 81 #[.pointer (some ⟨qb, 0, none⟩)] w fun e w1 => ∃ a b, e = .returned (.tuple #[a, b]) ∧ Below w.heap.size w w1 ∧
      Calls Tryz.prog 82 #[.pointer (some ⟨rb, 0, none⟩)] w1 fun e w2 => ∃ a2 b2, e = .returned (.tuple #[a2, b2]) ∧ Below w1.heap.size w1 w2 ∧
        ∃ (x : List ByteArray) (y : List Dk), x.length ≤ 1000000000000 ∧ y.length ≤ 1000000000000 ∧ w2.ownsRow w.heap.size 9 1 a x.length (x.map Value.string) ∧ w2.ownsRow 0 9 1 a2 x.length (x.map Value.string) ∧ w2.ownsRow w.heap.size 119 2 b y.length (flatD y) ∧ w2.ownsRow w1.heap.size 119 2 b2 y.length (flatD y) := by
  obtain ⟨s, r, hb, h1, h2⟩ := h
  obtain ⟨pm, dm, fm, rv, hq⟩ := hb.qs
  refine (told_any hq hU.len2 hb.ok).mono ?_
  rintro e w1 ⟨a, b, l, rfl, ha, hbr, hcol, hsort, hlen, hbe⟩
  refine ⟨_, _, rfl, hbe, ?_⟩
  obtain ⟨v1, v2, v3, v4, v5, hr⟩ := hb.rs
  have hr1 := hr.below hbe
  refine (rtold_any hr1 (bd1 hb.rel.len4 hU.len)).mono ?_
  rintro e w2 ⟨v', out, rfl, hsel, ho, hbe2⟩
  have hl : l = out := rel_told hb.rel hsel (fun x hx => (hcol.snd x hx).1) (fun b c hbc => (hcol.cmp b c hbc).elim (fun e => by cases e) id) hcol.nd (hsort.imp (fun {a b} hab => by
    rw [ltD] at hab
    unfold ltP
    exact of_decide_eq_false hab))
  subst hl
  have hU2 := hU.len2
  refine ⟨_, _, rfl, hbe2, s.row, l, Nat.le_trans hb.ok.len hU2, Nat.le_trans hlen hU2, own_keep ha (fun k e => hbe2.block k (own_lt ha e)), ?_, own_keep hbr (fun k e => hbe2.block k (own_lt hbr e)), ho⟩
  have := own_keep (w' := w2) hr1.o1 (fun k e => hbe2.block k (own_lt hr1.o1 e))
  rw [hb.rel.row] at this
  exact this
end

end Go.Proofs.YtdgfjneapialdaaGreatDoor
