import Derived.Test.YtdgfjneapialdaaGreatDoorTu
import Derived.Test.YtdgfjneapialdaaGreatDoorTs
namespace Go.Proofs.YtdgfjneapialdaaGreatDoor.S
open Go Go.RowKit Go.Maps

theorem KO.keep {w w' : World} {B : Nat} {s : Int} {x : Value} (h : KO w B s x) (k : ∀ b, x.ownBlock = some b → w'.heap[b]? = w.heap[b]?) : KO w' B s x := by
  obtain ⟨n, hn, ho⟩ := h
  exact ⟨n, hn, own_keep ho k⟩
theorem KE.keep {w w' : World} {B : Nat} {c : Int} {x : Value} (h : KE w B c x) (k : ∀ b, x.ownBlock = some b → w'.heap[b]? = w.heap[b]?) : KE w' B c x := by
  obtain ⟨n, hn, ho⟩ := h
  exact ⟨n, hn, own_keep ho k⟩
theorem KO.lt {w : World} {B : Nat} {s : Int} {x : Value} (h : KO w B s x) {b : Nat} (e : x.ownBlock = some b) : b < w.heap.size := by
  obtain ⟨n, hn, ho⟩ := h
  exact own_lt ho e
theorem KE.lt {w : World} {B : Nat} {c : Int} {x : Value} (h : KE w B c x) {b : Nat} (e : x.ownBlock = some b) : b < w.heap.size := by
  obtain ⟨n, hn, ho⟩ := h
  exact own_lt ho e
theorem KO.typ {w : World} {B : Nat} {s : Int} {x : Value} (h : KO w B s x) {b : Nat} (e : x.ownBlock = some b) : ∃ cur, w.heap[b]? = some (.cells cur 84 (0, 0)) := by
  obtain ⟨n, hn, ho⟩ := h
  exact own_typ ho b e
theorem KE.typ {w : World} {B : Nat} {c : Int} {x : Value} (h : KE w B c x) {b : Nat} (e : x.ownBlock = some b) : ∃ cur, w.heap[b]? = some (.cells cur 170 (0, 0)) := by
  obtain ⟨n, hn, ho⟩ := h
  exact own_typ ho b e
theorem KO.ge {w : World} {B : Nat} {s : Int} {x : Value} (h : KO w B s x) {b : Nat} (e : x.ownBlock = some b) : B ≤ b := by
  obtain ⟨n, hn, ho⟩ := h
  exact (ho.lt b e).1
theorem KE.ge {w : World} {B : Nat} {c : Int} {x : Value} (h : KE w B c x) {b : Nat} (e : x.ownBlock = some b) : B ≤ b := by
  obtain ⟨n, hn, ho⟩ := h
  exact (ho.lt b e).1
theorem KO.base {w : World} {B : Nat} {s : Int} {x : Value} (h : KO w B s x) : KO w 0 s x := by
  obtain ⟨n, hn, ho⟩ := h
  exact ⟨n, hn, own_mono ho (Nat.zero_le _)⟩
theorem KE.base {w : World} {B : Nat} {c : Int} {x : Value} (h : KE w B c x) : KE w 0 c x := by
  obtain ⟨n, hn, ho⟩ := h
  exact ⟨n, hn, own_mono ho (Nat.zero_le _)⟩

/-- What is the script's own: its world, its row of queues, and what its book keeps, m1 lists of words and m2 of what is due. -/
structure Desk (own : Nat → Nat) (w : World) (wb : Nat) (q bw bd : Value) (ws ds : List Value) (ps : List (Nat × Nat)) (m1 m2 : Nat) : Prop where
  isw : WIs w wb q bw bd ws ds
  tab : Tab w
  o0 : own wb = 0
  oz : own 1 = ARG
  oy : own 0 = ARG
  oq : w.ownsRow 0 91 2 q ps.length (flatP ps)
  kq : ∀ b, q.ownBlock = some b → own b = 0
  kw : ∀ b, bw.ownBlock = some b → own b = 0
  kd : ∀ b, bd.ownBlock = some b → own b = 0
  z0 : wb ≠ 1
  z1 : bw.ownBlock ≠ some 1
  z2 : bd.ownBlock ≠ some 1
  zq : q.ownBlock ≠ some 1
  l1 : ws.length = 4 * m1
  l2 : ds.length = 4 * m2
  w1 : ∀ i (h : i < ws.length), KO w 0 (9000 + ((i / 4 : Nat) : Int)) ws[i] ∧ ∀ b, ws[i].ownBlock = some b → own b = 0
  d1 : ∀ i (h : i < ds.length), KE w 0 (9000 + ((i / 4 : Nat) : Int)) ds[i] ∧ ∀ b, ds[i].ownBlock = some b → own b = 0

section
variable {own own' : Nat → Nat} {w w' : World} {wb : Nat} {q bw bd : Value} {ws ds : List Value} {ps : List (Nat × Nat)} {m1 m2 : Nat}
theorem Desk.keep (h : Desk own w wb q bw bd ws ds ps m1 m2) (hb : ∀ b, b < w.heap.size → own b = 0 ∨ own b = ARG → w'.heap[b]? = w.heap[b]?) (ho : ∀ b, b < w.heap.size → own' b = own b) : Desk own' w' wb q bw bd ws ds ps m1 m2 where
  isw := h.isw.keep (hb _ h.isw.lt (Or.inl h.o0)) (fun k e => hb k (own_lt h.isw.ow e) (Or.inl (h.kw k e))) (fun k e => hb k (own_lt h.isw.od e) (Or.inl (h.kd k e)))
  tab := h.tab.keep (hb 1 h.tab.lt (Or.inr h.oz))
  o0 := (ho _ h.isw.lt).trans h.o0
  oz := (ho _ h.tab.lt).trans h.oz
  oy := (ho _ (Nat.zero_lt_of_lt h.isw.lt)).trans h.oy
  oq := own_keep h.oq (fun k e => hb k (own_lt h.oq e) (Or.inl (h.kq k e)))
  kq := fun b e => (ho b (own_lt h.oq e)).trans (h.kq b e)
  kw := fun b e => (ho b (own_lt h.isw.ow e)).trans (h.kw b e)
  kd := fun b e => (ho b (own_lt h.isw.od e)).trans (h.kd b e)
  z0 := h.z0
  z1 := h.z1
  z2 := h.z2
  zq := h.zq
  l1 := h.l1
  l2 := h.l2
  w1 := fun i hi => ⟨(h.w1 i hi).1.keep (fun b e => hb b ((h.w1 i hi).1.lt e) (Or.inl ((h.w1 i hi).2 b e))), fun b e => (ho b ((h.w1 i hi).1.lt e)).trans ((h.w1 i hi).2 b e)⟩
  d1 := fun i hi => ⟨(h.d1 i hi).1.keep (fun b e => hb b ((h.d1 i hi).1.lt e) (Or.inl ((h.d1 i hi).2 b e))), fun b e => (ho b ((h.d1 i hi).1.lt e)).trans ((h.d1 i hi).2 b e)⟩
/-- A call on a queue leaves it. -/
theorem Desk.other (h : Desk own w wb q bw bd ws ds ps m1 m2) {a : Nat} (ha : a ≠ 0) (ha2 : a < ARG) (k : KeptC (Others own w a) w w') : Desk (ownNew own w a) w' wb q bw bd ws ds ps m1 m2 :=
  h.keep (fun b hb e => k.block b ⟨hb, fun e2 => by rcases e with e | e <;> omega⟩ hb) (fun b hb => ownNew_old hb)
theorem Desk.below (h : Desk own w wb q bw bd ws ds ps m1 m2) {a : Nat} (k : Below w.heap.size w w') : Desk (ownNew own w a) w' wb q bw bd ws ds ps m1 m2 :=
  h.keep (fun b hb _ => k.block b hb) (fun _ hb => ownNew_old hb)
theorem Desk.drewN (h : Desk own w wb q bw bd ws ds ps m1 m2) (n : Nat) : Desk own (w.drewN n) wb q bw bd ws ds ps m1 m2 :=
  h.keep (fun _ _ _ => rfl) (fun _ _ => rfl)
/-- What the book's word leaves: the other things. -/
theorem Desk.word_kept (h : Desk own w wb q bw bd ws ds ps m1 m2) {v : Value} (hv : ∀ b, v.ownBlock = some b → own b = 0) (k : KeptC (Aside w wb bw.ownBlock v.ownBlock) w w') : KeptC (Others own w 0) w w' :=
  k.sub (fun b hb => ⟨hb.1, fun e => hb.2 (by rw [e]; exact h.o0), fun e => hb.2 (h.kw b e), fun e => hb.2 (hv b e)⟩)
theorem Desk.due_kept (h : Desk own w wb q bw bd ws ds ps m1 m2) {v : Value} (hv : ∀ b, v.ownBlock = some b → own b = 0) (k : KeptC (Aside w wb bd.ownBlock v.ownBlock) w w') : KeptC (Others own w 0) w w' :=
  k.sub (fun b hb => ⟨hb.1, fun e => hb.2 (by rw [e]; exact h.o0), fun e => hb.2 (h.kd b e), fun e => hb.2 (hv b e)⟩)

/-- One list of words more. -/
theorem Desk.word (h : Desk own w wb q bw bd ws ds ps m1 m2) {v : Value} {B : Nat} (ht : ∀ b, v.ownBlock = some b → ∃ cur, w.heap[b]? = some (.cells cur 84 (0, 0))) (hf : ∀ x ∈ ws, ∀ b, x.ownBlock = some b → v.ownBlock ≠ some b) 
    {bw' : Value} {ns : List Value} (hw : WIs w' wb q bw' bd (ws ++ ns) ds) (hn : ns.length = 4) (hk : ∀ x ∈ ns, KO w' B (9000 + m1) x) (hB0 : 1 < B) (hB : ∀ b, B ≤ b → b < w.heap.size → own b = 0) (hvB : ∀ b, v.ownBlock = some b → B ≤ b) (hbw : bw'.ownBlock = bw.ownBlock ∨ ∀ k, bw'.ownBlock = some k → w.heap.size ≤ k) (k : KeptC (Aside w wb bw.ownBlock v.ownBlock) w w') :
    Desk (ownNew own w 0) w' wb q bw' bd (ws ++ ns) ds ps (m1 + 1) m2 := by
  have hlt := h.isw.lt
  have nt : ∀ {b : Nat} {t : TypeId} {cur : Array Value}, w.heap[b]? = some (.cells cur t (0, 0)) → t ≠ 81 → t ≠ 44 → t ≠ 84 → w'.heap[b]? = w.heap[b]? := by
    intro b t cur hc h1 h2 h3
    have hb := (Array.getElem?_eq_some_iff.1 hc).1
    refine k.block b ⟨hb, ne_typ hc h.isw.blk h1, fun e => ?_, fun e => ?_⟩ hb
    · obtain ⟨c2, hc2⟩ := own_typ h.isw.ow b e; exact ne_typ hc hc2 h2 rfl
    · obtain ⟨c2, hc2⟩ := ht b e; exact ne_typ hc hc2 h3 rfl
  have n0 : ∀ {b : Nat}, b < w.heap.size → own b = 0 → ownNew own w 0 b = 0 := fun hb e => (ownNew_old hb).trans e
  have nz : ∀ {b : Nat}, (b < w.heap.size → own b = 0) → ownNew own w 0 b = 0 := by
    intro b e
    by_cases hb : b < w.heap.size
    · exact n0 hb (e hb)
    · exact ownNew_new (Nat.not_lt.1 hb)
  have kept9 : ∀ {b : Nat} {cur : Array Value}, w.heap[b]? = some (.cells cur 84 (0, 0)) → v.ownBlock ≠ some b → w'.heap[b]? = w.heap[b]? := by
    intro b cur hc h3
    have hb := (Array.getElem?_eq_some_iff.1 hc).1
    refine k.block b ⟨hb, ne_typ hc h.isw.blk (by decide), fun e => ?_, h3⟩ hb
    obtain ⟨c2, hc2⟩ := own_typ h.isw.ow b e; exact ne_typ hc hc2 (by decide) rfl
  refine ⟨hw, ?_, n0 hlt h.o0, (ownNew_old h.tab.lt).trans h.oz, (ownNew_old (Nat.zero_lt_of_lt hlt)).trans h.oy, ?_, fun b e => n0 (own_lt h.oq e) (h.kq b e), ?_, fun b e => n0 (own_lt h.isw.od e) (h.kd b e), h.z0, ?_, h.z2, h.zq, by rw [List.length_append, h.l1, hn]; omega, h.l2, ?_, ?_⟩
  · exact h.tab.keep (k.block 1 ⟨h.tab.lt, h.z0.symm, h.z1, fun e => by have := hvB 1 e; omega⟩ (h.tab.lt))
  · exact own_keep h.oq (fun b e => by obtain ⟨cur, hc⟩ := own_typ h.oq b e; exact nt hc (by decide) (by decide) (by decide))
  · intro b e
    refine nz (fun hb => ?_)
    rcases hbw with e2 | e2
    · exact h.kw b (e2 ▸ e)
    · have := e2 b e; omega
  · rcases hbw with e2 | e2
    · rw [e2]; exact h.z1
    · intro e; have := e2 1 e; have := h.tab.lt; omega
  · intro i hi
    rcases getElem_snocs hi with ⟨h1, e⟩ | ⟨h1, e⟩
    · rw [e]
      obtain ⟨ha, hb⟩ := h.w1 i h1
      refine ⟨ha.keep (fun b e => ?_), fun b e => n0 (ha.lt e) (hb b e)⟩
      obtain ⟨cur, hc⟩ := ha.typ e
      exact kept9 hc (hf _ (List.getElem_mem h1) b e)
    · have e4 : i / 4 = m1 := by have := h.l1; rw [List.length_append, hn] at hi; omega
      rw [e4]
      refine ⟨(hk _ e).base, fun b eb => nz (fun hb => ?_)⟩
      exact hB b ((hk _ e).ge eb) hb
  · intro i hi
    obtain ⟨ha, hb⟩ := h.d1 i hi
    refine ⟨ha.keep (fun b e => ?_), fun b e => n0 (ha.lt e) (hb b e)⟩
    obtain ⟨cur, hc⟩ := ha.typ e
    exact nt hc (by decide) (by decide) (by decide)
/-- One list of what is due more. -/
theorem Desk.due (h : Desk own w wb q bw bd ws ds ps m1 m2) {v : Value} {B : Nat} (ht : ∀ b, v.ownBlock = some b → ∃ cur, w.heap[b]? = some (.cells cur 170 (0, 0))) (hf : ∀ x ∈ ds, ∀ b, x.ownBlock = some b → v.ownBlock ≠ some b) 
    {bd' : Value} {ns : List Value} (hw : WIs w' wb q bw bd' ws (ds ++ ns)) (hn : ns.length = 4) (hk : ∀ x ∈ ns, KE w' B (9000 + m2) x) (hB0 : 1 < B) (hB : ∀ b, B ≤ b → b < w.heap.size → own b = 0) (hvB : ∀ b, v.ownBlock = some b → B ≤ b) (hbw : bd'.ownBlock = bd.ownBlock ∨ ∀ k, bd'.ownBlock = some k → w.heap.size ≤ k) (k : KeptC (Aside w wb bd.ownBlock v.ownBlock) w w') :
    Desk (ownNew own w 0) w' wb q bw bd' ws (ds ++ ns) ps m1 (m2 + 1) := by
  have hlt := h.isw.lt
  have nt : ∀ {b : Nat} {t : TypeId} {cur : Array Value}, w.heap[b]? = some (.cells cur t (0, 0)) → t ≠ 81 → t ≠ 139 → t ≠ 170 → w'.heap[b]? = w.heap[b]? := by
    intro b t cur hc h1 h2 h3
    have hb := (Array.getElem?_eq_some_iff.1 hc).1
    refine k.block b ⟨hb, ne_typ hc h.isw.blk h1, fun e => ?_, fun e => ?_⟩ hb
    · obtain ⟨c2, hc2⟩ := own_typ h.isw.od b e; exact ne_typ hc hc2 h2 rfl
    · obtain ⟨c2, hc2⟩ := ht b e; exact ne_typ hc hc2 h3 rfl
  have n0 : ∀ {b : Nat}, b < w.heap.size → own b = 0 → ownNew own w 0 b = 0 := fun hb e => (ownNew_old hb).trans e
  have nz : ∀ {b : Nat}, (b < w.heap.size → own b = 0) → ownNew own w 0 b = 0 := by
    intro b e
    by_cases hb : b < w.heap.size
    · exact n0 hb (e hb)
    · exact ownNew_new (Nat.not_lt.1 hb)
  have kept84 : ∀ {b : Nat} {cur : Array Value}, w.heap[b]? = some (.cells cur 170 (0, 0)) → v.ownBlock ≠ some b → w'.heap[b]? = w.heap[b]? := by
    intro b cur hc h3
    have hb := (Array.getElem?_eq_some_iff.1 hc).1
    refine k.block b ⟨hb, ne_typ hc h.isw.blk (by decide), fun e => ?_, h3⟩ hb
    obtain ⟨c2, hc2⟩ := own_typ h.isw.od b e; exact ne_typ hc hc2 (by decide) rfl
  refine ⟨hw, ?_, n0 hlt h.o0, (ownNew_old h.tab.lt).trans h.oz, (ownNew_old (Nat.zero_lt_of_lt hlt)).trans h.oy, ?_, fun b e => n0 (own_lt h.oq e) (h.kq b e), fun b e => n0 (own_lt h.isw.ow e) (h.kw b e), ?_, h.z0, h.z1, ?_, h.zq, h.l1, by rw [List.length_append, h.l2, hn]; omega, ?_, ?_⟩
  · exact h.tab.keep (k.block 1 ⟨h.tab.lt, h.z0.symm, h.z2, fun e => by have := hvB 1 e; omega⟩ (h.tab.lt))
  · exact own_keep h.oq (fun b e => by obtain ⟨cur, hc⟩ := own_typ h.oq b e; exact nt hc (by decide) (by decide) (by decide))
  · intro b e
    refine nz (fun hb => ?_)
    rcases hbw with e2 | e2
    · exact h.kd b (e2 ▸ e)
    · have := e2 b e; omega
  · rcases hbw with e2 | e2
    · rw [e2]; exact h.z2
    · intro e; have := e2 1 e; have := h.tab.lt; omega
  · intro i hi
    obtain ⟨ha, hb⟩ := h.w1 i hi
    refine ⟨ha.keep (fun b e => ?_), fun b e => n0 (ha.lt e) (hb b e)⟩
    obtain ⟨cur, hc⟩ := ha.typ e
    exact nt hc (by decide) (by decide) (by decide)
  · intro i hi
    rcases getElem_snocs hi with ⟨h1, e⟩ | ⟨h1, e⟩
    · rw [e]
      obtain ⟨ha, hb⟩ := h.d1 i h1
      refine ⟨ha.keep (fun b e => ?_), fun b e => n0 (ha.lt e) (hb b e)⟩
      obtain ⟨cur, hc⟩ := ha.typ e
      exact kept84 hc (hf _ (List.getElem_mem h1) b e)
    · have e4 : i / 4 = m2 := by have := h.l2; rw [List.length_append, hn] at hi; omega
      rw [e4]
      refine ⟨(hk _ e).base, fun b eb => nz (fun hb => ?_)⟩
      exact hB b ((hk _ e).ge eb) hb
end

/-- All that a script has: what is its own, and its pairs of queues, but for those that H names. -/
structure Inw (own : Nat → Nat) (w : World) (wb : Nat) (q bw bd : Value) (ws ds : List Value) (ps : List (Nat × Nat)) (m1 m2 : Nat) (H : Nat → Prop) : Prop where
  desk : Desk own w wb q bw bd ws ds ps m1 m2
  th : ∀ i (h : i < ps.length), ¬ H i → Thing own w i ps[i].1 ps[i].2

section
variable {own : Nat → Nat} {w w' : World} {wb : Nat} {q bw bd : Value} {ws ds : List Value} {ps : List (Nat × Nat)} {m1 m2 : Nat} {H : Nat → Prop}
theorem Inw.below (h : Inw own w wb q bw bd ws ds ps m1 m2 H) (k : Below w.heap.size w w') : Inw (ownNew own w 0) w' wb q bw bd ws ds ps m1 m2 H :=
  ⟨h.desk.below k, fun i hi hH => (h.th i hi hH).other (by omega) (by omega) (KeptC.of_below k rfl)⟩
theorem Inw.belowA (h : Inw own w wb q bw bd ws ds ps m1 m2 H) (hps : ps.length ≤ 2000000000000) (k : Below w.heap.size w w') : Inw (ownNew own w ARG) w' wb q bw bd ws ds ps m1 m2 H :=
  ⟨h.desk.below k, fun i hi hH => (h.th i hi hH).other (by unfold ARG; omega) (by unfold ARG; omega) (KeptC.of_below k rfl)⟩
/-- A call on a thing that is left out. -/
theorem Inw.call (h : Inw own w wb q bw bd ws ds ps m1 m2 H) {a : Nat} (ha : a ≠ 0) (ha2 : a < ARG) (hH : ∀ i, i < ps.length → ¬ H i → a ≠ 2 * i + 1 ∧ a ≠ 2 * i + 2) (k : KeptC (Others own w a) w w') : Inw (ownNew own w a) w' wb q bw bd ws ds ps m1 m2 H :=
  ⟨h.desk.other ha ha2 k, fun i hi hi2 => (h.th i hi hi2).other (hH i hi hi2).1 (hH i hi hi2).2 k⟩
theorem Inw.hole (h : Inw own w wb q bw bd ws ds ps m1 m2 none0) (i : Nat) : Inw own w wb q bw bd ws ds ps m1 m2 fun j => j = i :=
  ⟨h.desk, fun j hj _ => h.th j hj id⟩
theorem Inw.fill {i : Nat} (h : Inw own w wb q bw bd ws ds ps m1 m2 fun j => j = i) (hi : i < ps.length) (ht : Thing own w i ps[i].1 ps[i].2) : Inw own w wb q bw bd ws ds ps m1 m2 none0 :=
  ⟨h.desk, fun j hj _ => by
    by_cases e : j = i
    · subst e; exact ht
    · exact h.th j hj e⟩
/-- Both calls on the i-th pair. -/
theorem Inw.pair (h : Inw own w wb q bw bd ws ds ps m1 m2 none0) {i : Nat} (hA : 2 * i + 2 < ARG) (hi : i < ps.length) {w1 : World} (k1 : KeptC (Others own w (2 * i + 1)) w w1) (k2 : KeptC (Others (ownNew own w (2 * i + 1)) w1 (2 * i + 2)) w1 w') {qb rb : Nat} (hq : qb = ps[i].1) (hr : rb = ps[i].2) (ht : Thing (ownNew (ownNew own w (2 * i + 1)) w1 (2 * i + 2)) w' i qb rb) :
    Inw (ownNew (ownNew own w (2 * i + 1)) w1 (2 * i + 2)) w' wb q bw bd ws ds ps m1 m2 none0 :=
  ((((h.hole i).call (by omega) (by omega) (fun j _ hj => ⟨by omega, by omega⟩) k1).call (by omega) hA (fun j _ hj => ⟨by omega, by omega⟩) k2)).fill hi (by subst hq hr; exact ht)
end

/-- What is to be said of a step: it answers true, and all is as it should be. -/
def Went (own : Nat → Nat) (w : World) (wb : Nat) (q : Value) (ps : List (Nat × Nat)) (m : Nat) (e : Ending) (w' : World) : Prop :=
  e = .returned (.bool true) ∧ ∃ own' bw bd ws ds m1 m2, Inw own' w' wb q bw bd ws ds ps m1 m2 none0 ∧ m1 ≤ m ∧ m2 ≤ m ∧ Moves own w own' w'

end Go.Proofs.YtdgfjneapialdaaGreatDoor.S
