import Derived.Test.YtdgfjneapialdaaGreatDoorTa
namespace Go.Proofs.YtdgfjneapialdaaGreatDoor.S
open Go Go.RowKit Go.Maps

/-- A write under way: w the world ahead of it, with pv0 and ev0; X the object's box. -/
structure Mid (C : Nat → Prop) (w : World) (pv0 ev0 : Value) (W : World) (rb : Nat) (lim born : Int) (pv ev : Value) (sv : List Value) (es : List (Int × Ob)) (nv : Value) (L : List Ob) (X : Array Value) : Prop where
  blk : W.heap[rb]? = some (.cells #[.int .i64 lim, pv, ev, .int .i64 born] 151 (0, 0))
  op : W.ownsRow 0 44 1 pv sv.length sv
  oe : W.ownsRow 0 170 10 ev es.length (es.flatMap evP)
  on : W.ownsRow (w.heap.size + 2) 84 9 nv L.length (flatO L)
  b5 : W.heap[w.heap.size]? = some (.cells X 84 (0, 0))
  b6 : W.heap[w.heap.size + 1]? = some (.cells #[.int .u8 0, .string ⟨#[]⟩, .int .i64 0, .int .i64 0, .int .i64 0, .int .i64 0, .int .i64 0, .int .u8 0, .bool false] 84 (0, 0))
  kp : KeptC C w W
  st : ∀ b, b < w.heap.size → b ≠ rb → pv0.ownBlock ≠ some b → ev0.ownBlock ≠ some b → W.heap[b]? = w.heap[b]?
  sz : w.heap.size + 2 ≤ W.heap.size
  n1 : ∀ b, pv.ownBlock = some b → pv0.ownBlock = some b ∨ w.heap.size + 2 ≤ b
  n2 : ∀ b, ev.ownBlock = some b → ev0.ownBlock = some b ∨ w.heap.size + 2 ≤ b
  rl : rb < w.heap.size
  c0 : ¬ C rb
  c1 : ∀ b, pv0.ownBlock = some b → ¬ C b
  c2 : ∀ b, ev0.ownBlock = some b → ¬ C b
  cl : ∀ b, C b → b < w.heap.size

section
variable {C : Nat → Prop} {w W w' : World} {rb : Nat} {lim born : Int} {pv0 ev0 pv ev nv v' : Value} {sv : List Value} {es : List (Int × Ob)} {L : List Ob} {X : Array Value}
theorem Mid.keep (h : Mid C w pv0 ev0 W rb lim born pv ev sv es nv L X) (hk : ∀ b, b < W.heap.size → w'.heap[b]? = W.heap[b]?) (hs : W.heap.size ≤ w'.heap.size) (h1 : w'.os = W.os) (h2 : w'.tape = W.tape) (h3 : w'.output = W.output) : Mid C w pv0 ev0 w' rb lim born pv ev sv es nv L X where
  blk := (hk _ (Array.getElem?_eq_some_iff.1 h.blk).1).trans h.blk
  op := own_keep h.op (fun b e => hk b (own_lt h.op e))
  oe := own_keep h.oe (fun b e => hk b (own_lt h.oe e))
  on := own_keep h.on (fun b e => hk b (own_lt h.on e))
  b5 := (hk _ (Array.getElem?_eq_some_iff.1 h.b5).1).trans h.b5
  b6 := (hk _ (Array.getElem?_eq_some_iff.1 h.b6).1).trans h.b6
  kp := h.kp.trans ⟨h1, h2, h3, hs, fun b _ hb => hk b hb⟩
  st := fun b hb a1 a2 a3 => (hk b (by have := h.sz; omega)).trans (h.st b hb a1 a2 a3)
  sz := Nat.le_trans h.sz hs
  n1 := h.n1
  n2 := h.n2
  rl := h.rl
  c0 := h.c0
  c1 := h.c1
  c2 := h.c2
  cl := h.cl
theorem Mid.drewN (h : Mid C w pv0 ev0 W rb lim born pv ev sv es nv L X) (n : Nat) : Mid C w pv0 ev0 (W.drewN n) rb lim born pv ev sv es nv L X := h.keep (fun _ _ => rfl) (Nat.le_refl _) rfl rfl rfl
theorem Mid.drew (h : Mid C w pv0 ev0 W rb lim born pv ev sv es nv L X) : Mid C w pv0 ev0 W.drew rb lim born pv ev sv es nv L X := h.keep (fun _ _ => rfl) (Nat.le_refl _) rfl rfl rfl
theorem Mid.alloc (h : Mid C w pv0 ev0 W rb lim born pv ev sv es nv L X) (o : Obj) : Mid C w pv0 ev0 (W.alloc o) rb lim born pv ev sv es nv L X :=
  h.keep (fun b hb => Below.heap_alloc _ _ _ hb) (by simp) rfl rfl rfl
/-- The list of states has grown, and is laid into its field. -/
theorem Mid.past (h : Mid C w pv0 ev0 W rb lim born pv ev sv es nv L X) (k : W.grownBy w' pv.ownBlock) {sv' : List Value} (hr : w'.ownsRow 0 44 1 v' sv'.length sv') (hn : ∀ b, v'.ownBlock = some b → pv.ownBlock = some b ∨ W.heap.size ≤ b) : Mid C w pv0 ev0 (w'.setCell ⟨rb, 1, none⟩ v') rb lim born v' ev sv' es nv L X := by
  have hrl : rb < W.heap.size := (Array.getElem?_eq_some_iff.1 h.blk).1
  have np : pv.ownBlock ≠ some rb := fun e => by
    obtain ⟨cur, hc⟩ := own_typ h.op rb e
    exact ne_typ h.blk hc (by decide) rfl
  have e0 : w'.heap[rb]? = some (.cells #[.int .i64 lim, pv, ev, .int .i64 born] 151 (0, 0)) := (k.block _ hrl (fun e => np e.symm)).trans h.blk
  have nt : ∀ {b : Nat} {t : TypeId} {cur : Array Value}, W.heap[b]? = some (.cells cur t (0, 0)) → t ≠ 151 → t ≠ 44 → (w'.setCell ⟨rb, 1, none⟩ v').heap[b]? = W.heap[b]? := by
    intro b t cur hc h1 h2
    have hb := (Array.getElem?_eq_some_iff.1 hc).1
    rw [Below.heap_setCell _ _ _ _ (ne_typ hc h.blk h1)]
    refine k.block b hb (fun e => ?_)
    obtain ⟨c2, hc2⟩ := own_typ h.op b e.symm
    exact ne_typ hc hc2 h2 rfl
  have hsz : W.heap.size ≤ (w'.setCell ⟨rb, 1, none⟩ v').heap.size := by have := k.size; simpa [World.setCell] using this
  have ar : ∀ b, pv.ownBlock = some b → ¬ C b := fun b e c => by
    rcases h.n1 b e with e | e
    · exact h.c1 b e c
    · have := h.cl b c; omega
  refine ⟨by rw [heap_setCell_at e0]; simp, ?_, own_keep h.oe (fun b e => by obtain ⟨cur, hc⟩ := own_typ h.oe b e; exact nt hc (by decide) (by decide)), own_keep h.on (fun b e => by obtain ⟨cur, hc⟩ := own_typ h.on b e; exact nt hc (by decide) (by decide)), (nt h.b5 (by decide) (by decide)).trans h.b5, (nt h.b6 (by decide) (by decide)).trans h.b6, (h.kp.grown k ar).set (a := ⟨rb, 1, none⟩) h.c0 _, ?_, by have := h.sz; omega, ?_, h.n2, h.rl, h.c0, h.c1, h.c2, h.cl⟩
  · exact own_keep hr (fun b e => Below.heap_setCell _ _ _ _ (by obtain ⟨cur, hc⟩ := own_typ hr b e; exact ne_typ hc e0 (by decide)))
  · intro b hb a1 a2 a3
    rw [Below.heap_setCell _ _ _ _ a1, k.block b (by have := h.sz; omega) (fun e => ?_)]
    · exact h.st b hb a1 a2 a3
    · rcases h.n1 b e.symm with e | e
      · exact a2 e
      · omega
  · intro b e
    rcases hn b e with e | e
    · exact h.n1 b e
    · exact Or.inr (by have := h.sz; omega)
/-- The list of events has. -/
theorem Mid.event (h : Mid C w pv0 ev0 W rb lim born pv ev sv es nv L X) (k : W.grownBy w' ev.ownBlock) {es' : List (Int × Ob)} (hr : w'.ownsRow 0 170 10 v' es'.length (es'.flatMap evP)) (hn : ∀ b, v'.ownBlock = some b → ev.ownBlock = some b ∨ W.heap.size ≤ b) : Mid C w pv0 ev0 (w'.setCell ⟨rb, 2, none⟩ v') rb lim born pv v' sv es' nv L X := by
  have hrl : rb < W.heap.size := (Array.getElem?_eq_some_iff.1 h.blk).1
  have np : ev.ownBlock ≠ some rb := fun e => by
    obtain ⟨cur, hc⟩ := own_typ h.oe rb e
    exact ne_typ h.blk hc (by decide) rfl
  have e0 : w'.heap[rb]? = some (.cells #[.int .i64 lim, pv, ev, .int .i64 born] 151 (0, 0)) := (k.block _ hrl (fun e => np e.symm)).trans h.blk
  have nt : ∀ {b : Nat} {t : TypeId} {cur : Array Value}, W.heap[b]? = some (.cells cur t (0, 0)) → t ≠ 151 → t ≠ 170 → (w'.setCell ⟨rb, 2, none⟩ v').heap[b]? = W.heap[b]? := by
    intro b t cur hc h1 h2
    have hb := (Array.getElem?_eq_some_iff.1 hc).1
    rw [Below.heap_setCell _ _ _ _ (ne_typ hc h.blk h1)]
    refine k.block b hb (fun e => ?_)
    obtain ⟨c2, hc2⟩ := own_typ h.oe b e.symm
    exact ne_typ hc hc2 h2 rfl
  have hsz : W.heap.size ≤ (w'.setCell ⟨rb, 2, none⟩ v').heap.size := by have := k.size; simpa [World.setCell] using this
  have ar : ∀ b, ev.ownBlock = some b → ¬ C b := fun b e c => by
    rcases h.n2 b e with e | e
    · exact h.c2 b e c
    · have := h.cl b c; omega
  refine ⟨by rw [heap_setCell_at e0]; simp, own_keep h.op (fun b e => by obtain ⟨cur, hc⟩ := own_typ h.op b e; exact nt hc (by decide) (by decide)), ?_, own_keep h.on (fun b e => by obtain ⟨cur, hc⟩ := own_typ h.on b e; exact nt hc (by decide) (by decide)), (nt h.b5 (by decide) (by decide)).trans h.b5, (nt h.b6 (by decide) (by decide)).trans h.b6, (h.kp.grown k ar).set (a := ⟨rb, 2, none⟩) h.c0 _, ?_, by have := h.sz; omega, h.n1, ?_, h.rl, h.c0, h.c1, h.c2, h.cl⟩
  · exact own_keep hr (fun b e => Below.heap_setCell _ _ _ _ (by obtain ⟨cur, hc⟩ := own_typ hr b e; exact ne_typ hc e0 (by decide)))
  · intro b hb a1 a2 a3
    rw [Below.heap_setCell _ _ _ _ a1, k.block b (by have := h.sz; omega) (fun e => ?_)]
    · exact h.st b hb a1 a2 a3
    · rcases h.n2 b e.symm with e | e
      · exact a3 e
      · omega
  · intro b e
    rcases hn b e with e | e
    · exact h.n2 b e
    · exact Or.inr (by have := h.sz; omega)
/-- The new state's row has grown. -/
theorem Mid.row (h : Mid C w pv0 ev0 W rb lim born pv ev sv es nv L X) {v0 : Value} {n : Nat} {xs : List Value} (k : W.grownBy w' v0.ownBlock) {W0 : World} (h0 : W0.ownsRow (w.heap.size + 2) 84 9 v0 n xs) {L' : List Ob} (hr : w'.ownsRow (w.heap.size + 2) 84 9 v' L'.length (flatO L')) (ht : ∀ b, v0.ownBlock = some b → ∃ cur, W.heap[b]? = some (.cells cur 84 (0, 0))) : Mid C w pv0 ev0 w' rb lim born pv ev sv es v' L' X := by
  have nt : ∀ {b : Nat} {t : TypeId} {cur : Array Value}, W.heap[b]? = some (.cells cur t (0, 0)) → t ≠ 84 ∨ b < w.heap.size + 2 → w'.heap[b]? = W.heap[b]? := by
    intro b t cur hc h2
    have hb := (Array.getElem?_eq_some_iff.1 hc).1
    refine k.block b hb (fun e => ?_)
    rcases h2 with h2 | h2
    · obtain ⟨c2, hc2⟩ := ht b e.symm
      exact ne_typ hc hc2 h2 rfl
    · have := (h0.lt b e.symm).1
      omega
  refine ⟨(nt h.blk (Or.inl (by decide))).trans h.blk, own_keep h.op (fun b e => by obtain ⟨cur, hc⟩ := own_typ h.op b e; exact nt hc (Or.inl (by decide))), own_keep h.oe (fun b e => by obtain ⟨cur, hc⟩ := own_typ h.oe b e; exact nt hc (Or.inl (by decide))), hr, (nt h.b5 (Or.inr (by omega))).trans h.b5, (nt h.b6 (Or.inr (by omega))).trans h.b6, h.kp.grown k (fun b e c => by have := (h0.lt b e).1; have := h.cl b c; omega), fun b hb a1 a2 a3 => (k.block b (by have := h.sz; omega) (fun e => by have := (h0.lt b e.symm).1; omega)).trans (h.st b hb a1 a2 a3), Nat.le_trans h.sz k.size, h.n1, h.n2, h.rl, h.c0, h.c1, h.c2, h.cl⟩
/-- It is done. -/
theorem Mid.fin {past : List (List Ob)} {sv0 : List Value} {es0 : List (Int × Ob)} {x : Int × Ob} (h : Mid C w pv0 ev0 W rb lim born pv ev (sv0 ++ [nv]) (es0 ++ [x]) nv L X) (h0 : IsRef C w rb lim born pv0 ev0 sv0 past es0)
    (y0 y1 y2 y3 y4 y5 y6 y7 y8 : Value) : IsRef C (set9 W (w.heap.size + 1) y0 y1 y2 y3 y4 y5 y6 y7 y8) rb lim born pv ev (sv0 ++ [nv]) (past ++ [L]) (es0 ++ [x]) ∧ KeptC C w (set9 W (w.heap.size + 1) y0 y1 y2 y3 y4 y5 y6 y7 y8) := by
  obtain ⟨V, hV⟩ : ∃ V, V = set9 W (w.heap.size + 1) y0 y1 y2 y3 y4 y5 y6 y7 y8 := ⟨_, rfl⟩
  have hne : ∀ b : Nat, b ≠ w.heap.size + 1 → V.heap[b]? = W.heap[b]? := fun b hb => by rw [hV]; exact set9_other _ _ y0 y1 y2 y3 y4 y5 y6 y7 y8 _ hb
  have hsz : V.heap.size = W.heap.size := by rw [hV]; exact set9_size _ _ y0 y1 y2 y3 y4 y5 y6 y7 y8
  have hos : V.os = W.os ∧ V.tape = W.tape ∧ V.output = W.output := by
    rw [hV]
    have hbl := set9_below (Below.refl (w.heap.size + 1) W) (N := w.heap.size + 1) (Nat.le_refl _) y0 y1 y2 y3 y4 y5 y6 y7 y8
    exact ⟨hbl.os, hbl.tape, hbl.output⟩
  rw [← hV]
  clear hV
  have nrow : ∀ {base : Nat} {e : TypeId} {size n : Nat} {v : Value} {xs : List Value}, W.ownsRow base e size v n xs → e ≠ 84 → V.ownsRow base e size v n xs := by
    intro base e size n v xs ho he
    refine own_keep ho (fun b eb => hne b ?_)
    obtain ⟨cur, hc⟩ := own_typ ho b eb
    exact ne_typ hc h.b6 he
  have hblk : V.heap[rb]? = some (.cells #[.int .i64 lim, pv, ev, .int .i64 born] 151 (0, 0)) := (hne rb (by have := h.rl; omega)).trans h.blk
  have hon : V.ownsRow w.heap.size 84 9 nv L.length (flatO L) := own_mono (own_keep h.on (fun b e => hne b (by have := (h.on.lt b e).1; omega))) (by omega)
  have hst : ∀ v ∈ sv0, ∀ b, v.ownBlock = some b → V.heap[b]? = w.heap[b]? := by
    intro v hv b e
    have hb := h0.slt v hv b e
    rw [hne b (by omega)]
    obtain ⟨i, hi, rfl⟩ := List.getElem_of_mem hv
    obtain ⟨cur, hc⟩ := own_typ (h0.st i hi (h0.ls ▸ hi)) b e
    refine h.st b hb (ne_typ hc h0.blk (by decide)) (fun e2 => ?_) (fun e2 => ?_)
    · obtain ⟨c2, hc2⟩ := own_typ h0.op b e2; exact ne_typ hc hc2 (by decide) rfl
    · obtain ⟨c2, hc2⟩ := own_typ h0.oe b e2; exact ne_typ hc hc2 (by decide) rfl
  have m1 : ∀ b, pv.ownBlock = some b → pv0.ownBlock = some b ∨ w.heap.size ≤ b := fun b e => (h.n1 b e).imp id (by omega)
  have m2 : ∀ b, ev.ownBlock = some b → ev0.ownBlock = some b ∨ w.heap.size ≤ b := fun b e => (h.n2 b e).imp id (by omega)
  refine ⟨h0.wrote h.cl hblk (nrow h.op (by decide)) (nrow h.oe (by decide)) hon m1 m2 hst, ?_⟩
  exact h.kp.trans ⟨hos.1, hos.2.1, hos.2.2, by omega, fun b hc _ => hne b (by have := h.cl b hc; omega)⟩
end

end Go.Proofs.YtdgfjneapialdaaGreatDoor.S
