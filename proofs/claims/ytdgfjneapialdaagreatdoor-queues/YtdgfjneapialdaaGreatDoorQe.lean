import Derived.Test.YtdgfjneapialdaaGreatDoorProg
import Derived.Test.YtdgfjneapialdaaGreatDoorQc
import Derived.Test.YtdgfjneapialdaaGreatDoorQd
import Derived.WalkKit
import Derived.WalkSpells
import Derived.WalkLawsBesides
namespace Go.Proofs.YtdgfjneapialdaaGreatDoor
open Go Go.RowKit Go.Maps

def qArr (ck : Int) (rv : Value) (pm dm fm : Nat) : Array Value := #[.int .i64 ck, rv, .map (some pm), .map (some dm), .map (some fm)]

/-- Block qb is a queue; C: blocks that are another's. -/
structure IsQ (C : Nat → Prop) (U : List ByteArray) (w : World) (qb pm dm fm : Nat) (rv : Value) (s : QS) : Prop where
  blk : w.heap[qb]? = some (.cells (qArr s.ck rv pm dm fm) 183 (0, 0))
  row : RowAt w 9 rv s.row
  mp : MapOf Tryz.prog w 9 202 .u8 pm U s.pl
  md : MapOf Tryz.prog w 9 3 .i64 dm U s.du
  mf : MapOf Tryz.prog w 9 3 .i64 fm U s.fa
  n1 : pm ≠ dm
  n2 : pm ≠ fm
  n3 : dm ≠ fm
  cq : ¬ C qb
  cp : ¬ C pm
  cd : ¬ C dm
  cf : ¬ C fm
  cr : ∀ k, rv.ownBlock = some k → ¬ C k

theorem zero48 (w : World) : (zeroValue 202).run Tryz.prog w = .ok (.int .u8 0) w := Tryz.zeroValue202 w
theorem zero3 (w : World) : (zeroValue 3).run Tryz.prog w = .ok (.int .i64 0) w := Tryz.zeroValue3 w
theorem und48 : Tryz.prog.underlying 202 = some (.int .u8) := Tryz.underlying202
theorem und3 : Tryz.prog.underlying 3 = some (.int .i64) := Tryz.underlying3
theorem und9 : Tryz.prog.underlying 9 = some .string := Tryz.underlying9
theorem und39 : Tryz.prog.underlying 180 = some (.map 9 202) := Tryz.underlying180
theorem und40 : Tryz.prog.underlying 181 = some (.map 9 3) := Tryz.underlying181
theorem wf8 (k : Int) (h0 : 0 ≤ k) (h1 : k ≤ 255) : (Lit.int .u8 k).wf = true := by
  simp only [Lit.wf, IntKind.min, IntKind.max, IntKind.signed, IntKind.bits, Bool.and_eq_true]
  simp; omega
theorem wf64 (k : Int) (h0 : -9223372036854775808 ≤ k) (h1 : k ≤ 9223372036854775807) : (Lit.int .i64 k).wf = true := by
  simp only [Lit.wf, IntKind.min, IntKind.max, IntKind.signed, IntKind.bits, Bool.and_eq_true]
  simp; omega

section
variable {C : Nat → Prop} {U : List ByteArray} {w w' W : World} {qb pm dm fm : Nat} {rv : Value} {s : QS}

theorem IsQ.lt (h : IsQ C U w qb pm dm fm rv s) : qb < w.heap.size := (Array.getElem?_eq_some_iff.1 h.blk).1
theorem IsQ.np (h : IsQ C U w qb pm dm fm rv s) : qb ≠ pm := by
  intro e; obtain ⟨es, c, hb⟩ := h.mp.isMap; rw [← e, h.blk] at hb; cases hb
theorem IsQ.nd (h : IsQ C U w qb pm dm fm rv s) : qb ≠ dm := by
  intro e; obtain ⟨es, c, hb⟩ := h.md.isMap; rw [← e, h.blk] at hb; cases hb
theorem IsQ.nf (h : IsQ C U w qb pm dm fm rv s) : qb ≠ fm := by
  intro e; obtain ⟨es, c, hb⟩ := h.mf.isMap; rw [← e, h.blk] at hb; cases hb
theorem IsQ.rq (h : IsQ C U w qb pm dm fm rv s) : ∀ k, rv.ownBlock = some k → k ≠ qb ∧ k ≠ pm ∧ k ≠ dm ∧ k ≠ fm := by
  intro k hk
  obtain ⟨cur, hc⟩ := h.row.typ k hk
  refine ⟨?_, ?_, ?_, ?_⟩
  · intro e; rw [e, h.blk] at hc; cases hc
  · intro e; obtain ⟨es, c, hb⟩ := h.mp.isMap; rw [e, hb] at hc; cases hc
  · intro e; obtain ⟨es, c, hb⟩ := h.md.isMap; rw [e, hb] at hc; cases hc
  · intro e; obtain ⟨es, c, hb⟩ := h.mf.isMap; rw [e, hb] at hc; cases hc
theorem IsQ.c0 (h : IsQ C U w qb pm dm fm rv s) : w.cell? ⟨qb, 0, none⟩ = some (.int .i64 s.ck) := by simp [World.cell?, h.blk, qArr]
theorem IsQ.c1 (h : IsQ C U w qb pm dm fm rv s) : w.cell? ⟨qb, 1, none⟩ = some rv := by simp [World.cell?, h.blk, qArr]
theorem IsQ.c2 (h : IsQ C U w qb pm dm fm rv s) : w.cell? ⟨qb, 2, none⟩ = some (.map (some pm)) := by simp [World.cell?, h.blk, qArr]
theorem IsQ.c3 (h : IsQ C U w qb pm dm fm rv s) : w.cell? ⟨qb, 3, none⟩ = some (.map (some dm)) := by simp [World.cell?, h.blk, qArr]
theorem IsQ.c4 (h : IsQ C U w qb pm dm fm rv s) : w.cell? ⟨qb, 4, none⟩ = some (.map (some fm)) := by simp [World.cell?, h.blk, qArr]
theorem IsQ.fz (h : IsQ C U w qb pm dm fm rv s) : ∀ o, w.frozen? ⟨qb, o, none⟩ = false := fun o => by simp [World.frozen?, h.blk]

theorem IsQ.keep (h : IsQ C U w qb pm dm fm rv s) (hk : ∀ k, k < w.heap.size → w'.heap[k]? = w.heap[k]?) : IsQ C U w' qb pm dm fm rv s :=
  ⟨(hk _ h.lt).trans h.blk, h.row.keep (fun k e => hk k (h.row.lt k e)), h.mp.keep (hk _ h.mp.lt), h.md.keep (hk _ h.md.lt), h.mf.keep (hk _ h.mf.lt), h.n1, h.n2, h.n3, h.cq, h.cp, h.cd, h.cf, h.cr⟩
theorem IsQ.below (h : IsQ C U w qb pm dm fm rv s) (k : Below w.heap.size w w') : IsQ C U w' qb pm dm fm rv s := h.keep (fun i hi => k.block i hi)
theorem IsQ.alloc (h : IsQ C U w qb pm dm fm rv s) (o : Obj) : IsQ C U (w.alloc o) qb pm dm fm rv s := h.below ((Below.refl _ _).alloc (Nat.le_refl _) _)
theorem IsQ.drew (h : IsQ C U w qb pm dm fm rv s) : IsQ C U w.drew qb pm dm fm rv s := h.keep (fun _ _ => rfl)
theorem IsQ.drewN (h : IsQ C U w qb pm dm fm rv s) (n : Nat) : IsQ C U (w.drewN n) qb pm dm fm rv s := h.keep (fun _ _ => rfl)
/-- Another's work: blocks of which none is the queue's turn. -/
theorem IsQ.kept {C' : Nat → Prop} (h : IsQ C U w qb pm dm fm rv s) (k : KeptC C' w w') (hc : ∀ b, ¬ C b → b < w.heap.size → C' b) : IsQ C U w' qb pm dm fm rv s :=
  ⟨(k.block _ (hc _ h.cq h.lt) h.lt).trans h.blk, h.row.keep (fun b e => k.block b (hc b (h.cr b e) (h.row.lt b e)) (h.row.lt b e)), h.mp.keep (k.block _ (hc _ h.cp h.mp.lt) h.mp.lt), h.md.keep (k.block _ (hc _ h.cd h.md.lt) h.md.lt), h.mf.keep (k.block _ (hc _ h.cf h.mf.lt) h.mf.lt), h.n1, h.n2, h.n3, h.cq, h.cp, h.cd, h.cf, h.cr⟩
theorem IsQ.setOther (h : IsQ C U w qb pm dm fm rv s) {a : Addr} (ha : C a.block) (v : Value) : IsQ C U (w.setCell a v) qb pm dm fm rv s := by
  have ne : ∀ b, ¬ C b → b ≠ a.block := fun b hb e => hb (e ▸ ha)
  exact ⟨(Below.heap_setCell _ _ _ _ (ne _ h.cq)).trans h.blk, h.row.keep (fun b e => Below.heap_setCell _ _ _ _ (ne _ (h.cr b e))), h.mp.keep (Below.heap_setCell _ _ _ _ (ne _ h.cp)), h.md.keep (Below.heap_setCell _ _ _ _ (ne _ h.cd)), h.mf.keep (Below.heap_setCell _ _ _ _ (ne _ h.cf)), h.n1, h.n2, h.n3, h.cq, h.cp, h.cd, h.cf, h.cr⟩
/-- More blocks are another's. -/
theorem IsQ.more {C' : Nat → Prop} (h : IsQ C U w qb pm dm fm rv s) (hc : ∀ b, b < w.heap.size → C' b → C b) : IsQ C' U w qb pm dm fm rv s :=
  ⟨h.blk, h.row, h.mp, h.md, h.mf, h.n1, h.n2, h.n3, fun e => h.cq (hc _ h.lt e), fun e => h.cp (hc _ h.mp.lt e), fun e => h.cd (hc _ h.md.lt e), fun e => h.cf (hc _ h.mf.lt e), fun k hk e => h.cr k hk (hc _ (h.row.lt k hk) e)⟩

theorem IsQ.putPl (h : IsQ C U w qb pm dm fm rv s) (hU : U.length < maxLen) {k : ByteArray} (hs : k.size ≤ maxLen) (hk : k ∈ U) {v : Int} (h0 : 0 ≤ v) (h1 : v ≤ 255) :
    ∃ w', (Instr.mapUpdate 180 (.map (some pm)) (.string k) (.int .u8 v)).run Tryz.prog w = .ok () w' ∧ IsQ C U w' qb pm dm fm rv { s with pl := upd s.pl k (some v) } ∧ KeptC C w w' ∧ w'.heap.size = w.heap.size := by
  obtain ⟨w', hrun, hm, ht⟩ := h.mp.put und9 und39 und48 hU hs hk (wf8 v h0 h1)
  have hb : ∀ b, b < w.heap.size → b ≠ pm → w'.heap[b]? = w.heap[b]? := fun b hb hne => ht.grown.block b hb (fun e => hne (Option.some.inj e))
  exact ⟨w', hrun, ⟨(hb _ h.lt h.np).trans h.blk, h.row.keep (fun b e => hb b (h.row.lt b e) (h.rq b e).2.1), hm, h.md.keep (hb _ h.md.lt h.n1.symm), h.mf.keep (hb _ h.mf.lt h.n2.symm), h.n1, h.n2, h.n3, h.cq, h.cp, h.cd, h.cf, h.cr⟩, (KeptC.refl C w).turned ht h.cp, turned_size ht⟩
theorem IsQ.delPl (h : IsQ C U w qb pm dm fm rv s) {k : ByteArray} (hs : k.size ≤ maxLen) (ty : TypeId) :
    ∃ w', (Builtin.delete_ #[180, 9] ty #[.map (some pm), .string k]).run Tryz.prog w = .ok (.tuple #[]) w' ∧ IsQ C U w' qb pm dm fm rv { s with pl := upd s.pl k none } ∧ KeptC C w w' ∧ w'.heap.size = w.heap.size := by
  obtain ⟨w', hrun, hm, ht⟩ := h.mp.del und9 und39 hs ty
  have hb : ∀ b, b < w.heap.size → b ≠ pm → w'.heap[b]? = w.heap[b]? := fun b hb hne => ht.grown.block b hb (fun e => hne (Option.some.inj e))
  exact ⟨w', hrun, ⟨(hb _ h.lt h.np).trans h.blk, h.row.keep (fun b e => hb b (h.row.lt b e) (h.rq b e).2.1), hm, h.md.keep (hb _ h.md.lt h.n1.symm), h.mf.keep (hb _ h.mf.lt h.n2.symm), h.n1, h.n2, h.n3, h.cq, h.cp, h.cd, h.cf, h.cr⟩, (KeptC.refl C w).turned ht h.cp, turned_size ht⟩
theorem IsQ.putDu (h : IsQ C U w qb pm dm fm rv s) (hU : U.length < maxLen) {k : ByteArray} (hs : k.size ≤ maxLen) (hk : k ∈ U) {v : Int} (h0 : -9223372036854775808 ≤ v) (h1 : v ≤ 9223372036854775807) :
    ∃ w', (Instr.mapUpdate 181 (.map (some dm)) (.string k) (.int .i64 v)).run Tryz.prog w = .ok () w' ∧ IsQ C U w' qb pm dm fm rv { s with du := upd s.du k (some v) } ∧ KeptC C w w' ∧ w'.heap.size = w.heap.size := by
  obtain ⟨w', hrun, hm, ht⟩ := h.md.put und9 und40 und3 hU hs hk (wf64 v h0 h1)
  have hb : ∀ b, b < w.heap.size → b ≠ dm → w'.heap[b]? = w.heap[b]? := fun b hb hne => ht.grown.block b hb (fun e => hne (Option.some.inj e))
  exact ⟨w', hrun, ⟨(hb _ h.lt h.nd).trans h.blk, h.row.keep (fun b e => hb b (h.row.lt b e) (h.rq b e).2.2.1), h.mp.keep (hb _ h.mp.lt h.n1), hm, h.mf.keep (hb _ h.mf.lt h.n3.symm), h.n1, h.n2, h.n3, h.cq, h.cp, h.cd, h.cf, h.cr⟩, (KeptC.refl C w).turned ht h.cd, turned_size ht⟩
theorem IsQ.delDu (h : IsQ C U w qb pm dm fm rv s) {k : ByteArray} (hs : k.size ≤ maxLen) (ty : TypeId) :
    ∃ w', (Builtin.delete_ #[181, 9] ty #[.map (some dm), .string k]).run Tryz.prog w = .ok (.tuple #[]) w' ∧ IsQ C U w' qb pm dm fm rv { s with du := upd s.du k none } ∧ KeptC C w w' ∧ w'.heap.size = w.heap.size := by
  obtain ⟨w', hrun, hm, ht⟩ := h.md.del und9 und40 hs ty
  have hb : ∀ b, b < w.heap.size → b ≠ dm → w'.heap[b]? = w.heap[b]? := fun b hb hne => ht.grown.block b hb (fun e => hne (Option.some.inj e))
  exact ⟨w', hrun, ⟨(hb _ h.lt h.nd).trans h.blk, h.row.keep (fun b e => hb b (h.row.lt b e) (h.rq b e).2.2.1), h.mp.keep (hb _ h.mp.lt h.n1), hm, h.mf.keep (hb _ h.mf.lt h.n3.symm), h.n1, h.n2, h.n3, h.cq, h.cp, h.cd, h.cf, h.cr⟩, (KeptC.refl C w).turned ht h.cd, turned_size ht⟩
theorem IsQ.putFa (h : IsQ C U w qb pm dm fm rv s) (hU : U.length < maxLen) {k : ByteArray} (hs : k.size ≤ maxLen) (hk : k ∈ U) {v : Int} (h0 : -9223372036854775808 ≤ v) (h1 : v ≤ 9223372036854775807) :
    ∃ w', (Instr.mapUpdate 181 (.map (some fm)) (.string k) (.int .i64 v)).run Tryz.prog w = .ok () w' ∧ IsQ C U w' qb pm dm fm rv { s with fa := upd s.fa k (some v) } ∧ KeptC C w w' ∧ w'.heap.size = w.heap.size := by
  obtain ⟨w', hrun, hm, ht⟩ := h.mf.put und9 und40 und3 hU hs hk (wf64 v h0 h1)
  have hb : ∀ b, b < w.heap.size → b ≠ fm → w'.heap[b]? = w.heap[b]? := fun b hb hne => ht.grown.block b hb (fun e => hne (Option.some.inj e))
  exact ⟨w', hrun, ⟨(hb _ h.lt h.nf).trans h.blk, h.row.keep (fun b e => hb b (h.row.lt b e) (h.rq b e).2.2.2), h.mp.keep (hb _ h.mp.lt h.n2), h.md.keep (hb _ h.md.lt h.n3), hm, h.n1, h.n2, h.n3, h.cq, h.cp, h.cd, h.cf, h.cr⟩, (KeptC.refl C w).turned ht h.cf, turned_size ht⟩

theorem IsQ.lookPl (h : IsQ C U w qb pm dm fm rv s) {k : ByteArray} (hs : k.size ≤ maxLen) : (Instr.lookup 180 (.map (some pm)) (.string k) false).run Tryz.prog w = .ok (.int .u8 ((s.pl k).getD 0)) w := h.mp.look und9 und39 und48 zero48 hs
theorem IsQ.lookDu (h : IsQ C U w qb pm dm fm rv s) {k : ByteArray} (hs : k.size ≤ maxLen) : (Instr.lookup 181 (.map (some dm)) (.string k) true).run Tryz.prog w = .ok (.tuple #[.int .i64 ((s.du k).getD 0), .bool (s.du k).isSome]) w := h.md.look_ok und9 und40 und3 zero3 hs
theorem IsQ.lookFa (h : IsQ C U w qb pm dm fm rv s) {k : ByteArray} (hs : k.size ≤ maxLen) : (Instr.lookup 181 (.map (some fm)) (.string k) false).run Tryz.prog w = .ok (.int .i64 ((s.fa k).getD 0)) w := h.mf.look und9 und40 und3 zero3 hs

theorem IsQ.setCk (h : IsQ C U w qb pm dm fm rv s) (x : Int) : IsQ C U (w.setCell ⟨qb, 0, none⟩ (.int .i64 x)) qb pm dm fm rv { s with ck := x } :=
  ⟨by rw [heap_setCell_at h.blk]; simp [qArr], h.row.keep (fun b e => Below.heap_setCell _ _ _ _ (h.rq b e).1), h.mp.keep (Below.heap_setCell _ _ _ _ h.np.symm), h.md.keep (Below.heap_setCell _ _ _ _ h.nd.symm), h.mf.keep (Below.heap_setCell _ _ _ _ h.nf.symm), h.n1, h.n2, h.n3, h.cq, h.cp, h.cd, h.cf, h.cr⟩

/-- Another row is laid in. -/
theorem IsQ.setRow (h : IsQ C U w qb pm dm fm rv s) (k : w.grownBy W rv.ownBlock) {rv' : Value} {l : List ByteArray} (hr : RowAt W 9 rv' l) (hn : ∀ b, rv'.ownBlock = some b → rv.ownBlock = some b ∨ w.heap.size ≤ b) (hC : ∀ b, C b → b < w.heap.size) :
    IsQ C U (W.setCell ⟨qb, 1, none⟩ rv') qb pm dm fm rv' { s with row := l } := by
  have hb : ∀ b, b < w.heap.size → (∀ j, rv.ownBlock = some j → j ≠ b) → W.heap[b]? = w.heap[b]? := fun b hb hne => k.block b hb (fun e => hne b e.symm rfl)
  have e1 := hb qb h.lt (fun j hj => (h.rq j hj).1)
  have e2 := hb pm h.mp.lt (fun j hj => (h.rq j hj).2.1)
  have e3 := hb dm h.md.lt (fun j hj => (h.rq j hj).2.2.1)
  have e4 := hb fm h.mf.lt (fun j hj => (h.rq j hj).2.2.2)
  refine ⟨by rw [heap_setCell_at (e1.trans h.blk)]; simp [qArr], hr.keep (fun b e => Below.heap_setCell _ _ _ _ ?_), (h.mp.keep e2).keep (Below.heap_setCell _ _ _ _ h.np.symm), (h.md.keep e3).keep (Below.heap_setCell _ _ _ _ h.nd.symm), (h.mf.keep e4).keep (Below.heap_setCell _ _ _ _ h.nf.symm), h.n1, h.n2, h.n3, h.cq, h.cp, h.cd, h.cf, ?_⟩
  · show b ≠ qb
    rcases hn b e with h1 | h1
    · exact (h.rq b h1).1
    · have := h.lt; omega
  · intro b e hc
    rcases hn b e with h1 | h1
    · exact h.cr b h1 hc
    · have := hC b hc; omega
end

/-- The queue behind a call: it is s', and of the blocks in C none has turned. -/
def QIs (C : Nat → Prop) (U : List ByteArray) (w w' : World) (qb pm dm fm : Nat) (s' : QS) : Prop := (∃ rv, IsQ C U w' qb pm dm fm rv s') ∧ KeptC C w w'

end Go.Proofs.YtdgfjneapialdaaGreatDoor
