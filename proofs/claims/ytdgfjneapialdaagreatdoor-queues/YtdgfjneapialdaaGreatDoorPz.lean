import Derived.Test.YtdgfjneapialdaaGreatDoorPy
namespace Go.Proofs.YtdgfjneapialdaaGreatDoor
open Go Go.RowKit Go.Maps Go.Lib Go.Sort

/-- The row of pairs. -/
def encP (p : Nat × Nat) : List Value := [.pointer (some ⟨p.1, 0, none⟩), .pointer (some ⟨p.2, 0, none⟩)]
def flatP (l : List (Nat × Nat)) : List Value := l.flatMap encP
theorem flatP_snoc (l : List (Nat × Nat)) (p : Nat × Nat) : flatP (l ++ [p]) = flatP l ++ encP p := by simp [flatP]
theorem flatP_len (l : List (Nat × Nat)) : (flatP l).length = l.length * 2 := by
  induction l with
  | nil => rfl
  | cons x r ih => simp [flatP, List.flatMap_cons] at ih ⊢; rw [ih]; simp [encP]; omega
theorem flatP_get (l : List (Nat × Nat)) : ∀ i (h : i < l.length), (flatP l)[i * 2]? = some (.pointer (some ⟨l[i].1, 0, none⟩)) ∧ (flatP l)[i * 2 + 1]? = some (.pointer (some ⟨l[i].2, 0, none⟩)) := by
  induction l with
  | nil => intro i h; simp at h
  | cons x r ih =>
    intro i h
    cases i with
    | zero => exact ⟨rfl, rfl⟩
    | succ i =>
      have := ih i (by simpa using h)
      rw [show (i + 1) * 2 = i * 2 + 1 + 1 by omega, show i * 2 + 1 + 1 + 1 = i * 2 + 1 + 1 + 1 by omega]
      exact this

theorem KW.keep {w w' : World} {B : Nat} {s : ByteArray} {x : Value} (h : KW w B s x) (k : ∀ b, x.ownBlock = some b → w'.heap[b]? = w.heap[b]?) : KW w' B s x := by
  obtain ⟨n, hn, ho⟩ := h
  exact ⟨n, hn, own_keep ho k⟩
theorem KD.keep {w w' : World} {B : Nat} {c : Int} {x : Value} (h : KD w B c x) (k : ∀ b, x.ownBlock = some b → w'.heap[b]? = w.heap[b]?) : KD w' B c x := by
  obtain ⟨n, hn, ho⟩ := h
  exact ⟨n, hn, own_keep ho k⟩
theorem KW.lt {w : World} {B : Nat} {s : ByteArray} {x : Value} (h : KW w B s x) {b : Nat} (e : x.ownBlock = some b) : b < w.heap.size := by
  obtain ⟨n, hn, ho⟩ := h
  exact own_lt ho e
theorem KD.lt {w : World} {B : Nat} {c : Int} {x : Value} (h : KD w B c x) {b : Nat} (e : x.ownBlock = some b) : b < w.heap.size := by
  obtain ⟨n, hn, ho⟩ := h
  exact own_lt ho e
theorem KW.typ {w : World} {B : Nat} {s : ByteArray} {x : Value} (h : KW w B s x) {b : Nat} (e : x.ownBlock = some b) : ∃ cur, w.heap[b]? = some (.cells cur 9 (0, 0)) := by
  obtain ⟨n, hn, ho⟩ := h
  exact own_typ ho b e
theorem KD.typ {w : World} {B : Nat} {c : Int} {x : Value} (h : KD w B c x) {b : Nat} (e : x.ownBlock = some b) : ∃ cur, w.heap[b]? = some (.cells cur 119 (0, 0)) := by
  obtain ⟨n, hn, ho⟩ := h
  exact own_typ ho b e
theorem KW.ge {w : World} {B : Nat} {s : ByteArray} {x : Value} (h : KW w B s x) {b : Nat} (e : x.ownBlock = some b) : B ≤ b := by
  obtain ⟨n, hn, ho⟩ := h
  exact (ho.lt b e).1
theorem KD.ge {w : World} {B : Nat} {c : Int} {x : Value} (h : KD w B c x) {b : Nat} (e : x.ownBlock = some b) : B ≤ b := by
  obtain ⟨n, hn, ho⟩ := h
  exact (ho.lt b e).1
theorem KW.base {w : World} {B : Nat} {s : ByteArray} {x : Value} (h : KW w B s x) : KW w 0 s x := by
  obtain ⟨n, hn, ho⟩ := h
  exact ⟨n, hn, own_mono ho (Nat.zero_le _)⟩
theorem KD.base {w : World} {B : Nat} {c : Int} {x : Value} (h : KD w B c x) : KD w 0 c x := by
  obtain ⟨n, hn, ho⟩ := h
  exact ⟨n, hn, own_mono ho (Nat.zero_le _)⟩

/-- Whose the argument's blocks are: no thing's. -/
def ARG : Nat := 10000000000000
/-- What is the script's own: its world, its row of queues, and what its book keeps, m1 lists of words and m2 of what is due. -/
structure Desk (own : Nat → Nat) (w : World) (wb : Nat) (q bw bd : Value) (ws ds : List Value) (ps : List (Nat × Nat)) (m1 m2 : Nat) : Prop where
  isw : IsW w wb q bw bd ws ds
  tab : Tab w
  o0 : own wb = 0
  oz : own 1 = ARG
  oq : w.ownsRow 0 96 2 q ps.length (flatP ps)
  kq : ∀ b, q.ownBlock = some b → own b = 0
  kw : ∀ b, bw.ownBlock = some b → own b = 0
  kd : ∀ b, bd.ownBlock = some b → own b = 0
  z0 : wb ≠ 1
  z1 : bw.ownBlock ≠ some 1
  z2 : bd.ownBlock ≠ some 1
  zq : q.ownBlock ≠ some 1
  l1 : ws.length = 4 * m1
  l2 : ds.length = 4 * m2
  w1 : ∀ i (h : i < ws.length), KW w 0 (numW (9000 + ((i / 4 : Nat) : Int))) ws[i] ∧ ∀ b, ws[i].ownBlock = some b → own b = 0
  d1 : ∀ i (h : i < ds.length), KD w 0 (9000 + ((i / 4 : Nat) : Int)) ds[i] ∧ ∀ b, ds[i].ownBlock = some b → own b = 0

section
variable {own own' : Nat → Nat} {U : List ByteArray} {w w' : World} {wb : Nat} {q bw bd : Value} {ws ds : List Value} {ps : List (Nat × Nat)} {m1 m2 : Nat}
theorem Desk.keep (h : Desk own w wb q bw bd ws ds ps m1 m2) (hb : ∀ b, b < w.heap.size → own b = 0 ∨ own b = ARG → w'.heap[b]? = w.heap[b]?) (ho : ∀ b, b < w.heap.size → own' b = own b) : Desk own' w' wb q bw bd ws ds ps m1 m2 where
  isw := h.isw.keep (hb _ h.isw.lt (Or.inl h.o0)) (fun k e => hb k (own_lt h.isw.ow e) (Or.inl (h.kw k e))) (fun k e => hb k (own_lt h.isw.od e) (Or.inl (h.kd k e)))
  tab := h.tab.keep (hb 1 h.tab.lt (Or.inr h.oz))
  o0 := (ho _ h.isw.lt).trans h.o0
  oz := (ho _ h.tab.lt).trans h.oz
  oq := own_keep h.oq (fun k e => hb k (own_lt h.oq e) (Or.inl (h.kq k e)))
  kq := fun b e => (ho b (own_lt h.oq e)).trans (h.kq b e)
  kw := fun b e => (ho b (own_lt h.isw.ow e)).trans (h.kw b e)
  kd := fun b e => (ho b (own_lt h.isw.od e)).trans (h.kd b e)
  z0 := h.z0
  z1 := h.z1
  z2 := h.z2
  zq := h.zq
  l1 := h.l1
  l2 := h.l2
  w1 := fun i hi => ⟨(h.w1 i hi).1.keep (fun b e => hb b ((h.w1 i hi).1.lt e) (Or.inl ((h.w1 i hi).2 b e))), fun b e => (ho b ((h.w1 i hi).1.lt e)).trans ((h.w1 i hi).2 b e)⟩
  d1 := fun i hi => ⟨(h.d1 i hi).1.keep (fun b e => hb b ((h.d1 i hi).1.lt e) (Or.inl ((h.d1 i hi).2 b e))), fun b e => (ho b ((h.d1 i hi).1.lt e)).trans ((h.d1 i hi).2 b e)⟩
/-- A call on a queue leaves it. -/
theorem Desk.other (h : Desk own w wb q bw bd ws ds ps m1 m2) {a : Nat} (ha : a ≠ 0) (ha2 : a < ARG) (k : KeptC (Others own w a) w w') : Desk (ownNew own w a) w' wb q bw bd ws ds ps m1 m2 :=
  h.keep (fun b hb e => k.block b ⟨hb, fun e2 => by rcases e with e | e <;> omega⟩ hb) (fun b hb => ownNew_old hb)
theorem Desk.below (h : Desk own w wb q bw bd ws ds ps m1 m2) {a : Nat} (k : Below w.heap.size w w') : Desk (ownNew own w a) w' wb q bw bd ws ds ps m1 m2 :=
  h.keep (fun b hb _ => k.block b hb) (fun _ hb => ownNew_old hb)
theorem Desk.drewN (h : Desk own w wb q bw bd ws ds ps m1 m2) (n : Nat) : Desk own (w.drewN n) wb q bw bd ws ds ps m1 m2 :=
  h.keep (fun _ _ _ => rfl) (fun _ _ => rfl)
/-- What the book's word leaves: the other things. -/
theorem Desk.word_kept (h : Desk own w wb q bw bd ws ds ps m1 m2) {v : Value} (hv : ∀ b, v.ownBlock = some b → own b = 0) (k : KeptC (Aside w wb bw.ownBlock v.ownBlock) w w') : KeptC (Others own w 0) w w' :=
  k.sub (fun b hb => ⟨hb.1, fun e => hb.2 (by rw [e]; exact h.o0), fun e => hb.2 (h.kw b e), fun e => hb.2 (hv b e)⟩)
theorem Desk.due_kept (h : Desk own w wb q bw bd ws ds ps m1 m2) {v : Value} (hv : ∀ b, v.ownBlock = some b → own b = 0) (k : KeptC (Aside w wb bd.ownBlock v.ownBlock) w w') : KeptC (Others own w 0) w w' :=
  k.sub (fun b hb => ⟨hb.1, fun e => hb.2 (by rw [e]; exact h.o0), fun e => hb.2 (h.kd b e), fun e => hb.2 (hv b e)⟩)

theorem getElem_snocs {l r : List Value} {i : Nat} (h : i < (l ++ r).length) : (∃ h1 : i < l.length, (l ++ r)[i] = l[i]) ∨ (l.length ≤ i ∧ (l ++ r)[i] ∈ r) := by
  by_cases h1 : i < l.length
  · exact Or.inl ⟨h1, List.getElem_append_left h1⟩
  · refine Or.inr ⟨by omega, ?_⟩
    rw [List.getElem_append_right (by omega)]
    exact List.getElem_mem _

/-- One list of words more. -/
theorem Desk.word (h : Desk own w wb q bw bd ws ds ps m1 m2) {v : Value} {B : Nat} (ht : ∀ b, v.ownBlock = some b → ∃ cur, w.heap[b]? = some (.cells cur 9 (0, 0))) (hf : ∀ x ∈ ws, ∀ b, x.ownBlock = some b → v.ownBlock ≠ some b) 
    {bw' : Value} {ns : List Value} (hw : IsW w' wb q bw' bd (ws ++ ns) ds) (hn : ns.length = 4) (hk : ∀ x ∈ ns, KW w' B (numW (9000 + m1)) x) (hB0 : 1 < B) (hB : ∀ b, B ≤ b → b < w.heap.size → own b = 0) (hvB : ∀ b, v.ownBlock = some b → B ≤ b) (hbw : bw'.ownBlock = bw.ownBlock ∨ ∀ k, bw'.ownBlock = some k → w.heap.size ≤ k) (k : KeptC (Aside w wb bw.ownBlock v.ownBlock) w w') :
    Desk (ownNew own w 0) w' wb q bw' bd (ws ++ ns) ds ps (m1 + 1) m2 := by
  have hlt := h.isw.lt
  have nt : ∀ {b : Nat} {t : TypeId} {cur : Array Value}, w.heap[b]? = some (.cells cur t (0, 0)) → t ≠ 81 → t ≠ 114 → t ≠ 9 → w'.heap[b]? = w.heap[b]? := by
    intro b t cur hc h1 h2 h3
    have hb := (Array.getElem?_eq_some_iff.1 hc).1
    refine k.block b ⟨hb, ne_typ hc h.isw.blk h1, fun e => ?_, fun e => ?_⟩ hb
    · obtain ⟨c2, hc2⟩ := own_typ h.isw.ow b e; exact ne_typ hc hc2 h2 rfl
    · obtain ⟨c2, hc2⟩ := ht b e; exact ne_typ hc hc2 h3 rfl
  have n0 : ∀ {b : Nat}, b < w.heap.size → own b = 0 → ownNew own w 0 b = 0 := fun hb e => (ownNew_old hb).trans e
  have nz : ∀ {b : Nat}, (b < w.heap.size → own b = 0) → ownNew own w 0 b = 0 := by
    intro b e
    by_cases hb : b < w.heap.size
    · exact n0 hb (e hb)
    · exact ownNew_new (Nat.not_lt.1 hb)
  have kept9 : ∀ {b : Nat} {cur : Array Value}, w.heap[b]? = some (.cells cur 9 (0, 0)) → v.ownBlock ≠ some b → w'.heap[b]? = w.heap[b]? := by
    intro b cur hc h3
    have hb := (Array.getElem?_eq_some_iff.1 hc).1
    refine k.block b ⟨hb, ne_typ hc h.isw.blk (by decide), fun e => ?_, h3⟩ hb
    obtain ⟨c2, hc2⟩ := own_typ h.isw.ow b e; exact ne_typ hc hc2 (by decide) rfl
  refine ⟨hw, ?_, n0 hlt h.o0, (ownNew_old h.tab.lt).trans h.oz, ?_, fun b e => n0 (own_lt h.oq e) (h.kq b e), ?_, fun b e => n0 (own_lt h.isw.od e) (h.kd b e), h.z0, ?_, h.z2, h.zq, by rw [List.length_append, h.l1, hn]; omega, h.l2, ?_, ?_⟩
  · exact h.tab.keep (k.block 1 ⟨h.tab.lt, h.z0.symm, h.z1, fun e => by have := hvB 1 e; omega⟩ (h.tab.lt))
  · exact own_keep h.oq (fun b e => by obtain ⟨cur, hc⟩ := own_typ h.oq b e; exact nt hc (by decide) (by decide) (by decide))
  · intro b e
    refine nz (fun hb => ?_)
    rcases hbw with e2 | e2
    · exact h.kw b (e2 ▸ e)
    · have := e2 b e; omega
  · rcases hbw with e2 | e2
    · rw [e2]; exact h.z1
    · intro e; have := e2 1 e; have := h.tab.lt; omega
  · intro i hi
    rcases getElem_snocs hi with ⟨h1, e⟩ | ⟨h1, e⟩
    · rw [e]
      obtain ⟨ha, hb⟩ := h.w1 i h1
      refine ⟨ha.keep (fun b e => ?_), fun b e => n0 (ha.lt e) (hb b e)⟩
      obtain ⟨cur, hc⟩ := ha.typ e
      exact kept9 hc (hf _ (List.getElem_mem h1) b e)
    · have e4 : i / 4 = m1 := by have := h.l1; rw [List.length_append, hn] at hi; omega
      rw [e4]
      refine ⟨(hk _ e).base, fun b eb => nz (fun hb => ?_)⟩
      exact hB b ((hk _ e).ge eb) hb
  · intro i hi
    obtain ⟨ha, hb⟩ := h.d1 i hi
    refine ⟨ha.keep (fun b e => ?_), fun b e => n0 (ha.lt e) (hb b e)⟩
    obtain ⟨cur, hc⟩ := ha.typ e
    exact nt hc (by decide) (by decide) (by decide)
/-- One list of what is due more. -/
theorem Desk.due (h : Desk own w wb q bw bd ws ds ps m1 m2) {v : Value} {B : Nat} (ht : ∀ b, v.ownBlock = some b → ∃ cur, w.heap[b]? = some (.cells cur 119 (0, 0))) (hf : ∀ x ∈ ds, ∀ b, x.ownBlock = some b → v.ownBlock ≠ some b) 
    {bd' : Value} {ns : List Value} (hw : IsW w' wb q bw bd' ws (ds ++ ns)) (hn : ns.length = 4) (hk : ∀ x ∈ ns, KD w' B (9000 + m2) x) (hB0 : 1 < B) (hB : ∀ b, B ≤ b → b < w.heap.size → own b = 0) (hvB : ∀ b, v.ownBlock = some b → B ≤ b) (hbw : bd'.ownBlock = bd.ownBlock ∨ ∀ k, bd'.ownBlock = some k → w.heap.size ≤ k) (k : KeptC (Aside w wb bd.ownBlock v.ownBlock) w w') :
    Desk (ownNew own w 0) w' wb q bw bd' ws (ds ++ ns) ps m1 (m2 + 1) := by
  have hlt := h.isw.lt
  have nt : ∀ {b : Nat} {t : TypeId} {cur : Array Value}, w.heap[b]? = some (.cells cur t (0, 0)) → t ≠ 81 → t ≠ 115 → t ≠ 119 → w'.heap[b]? = w.heap[b]? := by
    intro b t cur hc h1 h2 h3
    have hb := (Array.getElem?_eq_some_iff.1 hc).1
    refine k.block b ⟨hb, ne_typ hc h.isw.blk h1, fun e => ?_, fun e => ?_⟩ hb
    · obtain ⟨c2, hc2⟩ := own_typ h.isw.od b e; exact ne_typ hc hc2 h2 rfl
    · obtain ⟨c2, hc2⟩ := ht b e; exact ne_typ hc hc2 h3 rfl
  have n0 : ∀ {b : Nat}, b < w.heap.size → own b = 0 → ownNew own w 0 b = 0 := fun hb e => (ownNew_old hb).trans e
  have nz : ∀ {b : Nat}, (b < w.heap.size → own b = 0) → ownNew own w 0 b = 0 := by
    intro b e
    by_cases hb : b < w.heap.size
    · exact n0 hb (e hb)
    · exact ownNew_new (Nat.not_lt.1 hb)
  have kept84 : ∀ {b : Nat} {cur : Array Value}, w.heap[b]? = some (.cells cur 119 (0, 0)) → v.ownBlock ≠ some b → w'.heap[b]? = w.heap[b]? := by
    intro b cur hc h3
    have hb := (Array.getElem?_eq_some_iff.1 hc).1
    refine k.block b ⟨hb, ne_typ hc h.isw.blk (by decide), fun e => ?_, h3⟩ hb
    obtain ⟨c2, hc2⟩ := own_typ h.isw.od b e; exact ne_typ hc hc2 (by decide) rfl
  refine ⟨hw, ?_, n0 hlt h.o0, (ownNew_old h.tab.lt).trans h.oz, ?_, fun b e => n0 (own_lt h.oq e) (h.kq b e), fun b e => n0 (own_lt h.isw.ow e) (h.kw b e), ?_, h.z0, h.z1, ?_, h.zq, h.l1, by rw [List.length_append, h.l2, hn]; omega, ?_, ?_⟩
  · exact h.tab.keep (k.block 1 ⟨h.tab.lt, h.z0.symm, h.z2, fun e => by have := hvB 1 e; omega⟩ (h.tab.lt))
  · exact own_keep h.oq (fun b e => by obtain ⟨cur, hc⟩ := own_typ h.oq b e; exact nt hc (by decide) (by decide) (by decide))
  · intro b e
    refine nz (fun hb => ?_)
    rcases hbw with e2 | e2
    · exact h.kd b (e2 ▸ e)
    · have := e2 b e; omega
  · rcases hbw with e2 | e2
    · rw [e2]; exact h.z2
    · intro e; have := e2 1 e; have := h.tab.lt; omega
  · intro i hi
    obtain ⟨ha, hb⟩ := h.w1 i hi
    refine ⟨ha.keep (fun b e => ?_), fun b e => n0 (ha.lt e) (hb b e)⟩
    obtain ⟨cur, hc⟩ := ha.typ e
    exact nt hc (by decide) (by decide) (by decide)
  · intro i hi
    rcases getElem_snocs hi with ⟨h1, e⟩ | ⟨h1, e⟩
    · rw [e]
      obtain ⟨ha, hb⟩ := h.d1 i h1
      refine ⟨ha.keep (fun b e => ?_), fun b e => n0 (ha.lt e) (hb b e)⟩
      obtain ⟨cur, hc⟩ := ha.typ e
      exact kept84 hc (hf _ (List.getElem_mem h1) b e)
    · have e4 : i / 4 = m2 := by have := h.l2; rw [List.length_append, hn] at hi; omega
      rw [e4]
      refine ⟨(hk _ e).base, fun b eb => nz (fun hb => ?_)⟩
      exact hB b ((hk _ e).ge eb) hb
end

end Go.Proofs.YtdgfjneapialdaaGreatDoor
