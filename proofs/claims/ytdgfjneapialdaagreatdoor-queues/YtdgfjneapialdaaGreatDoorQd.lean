import Derived.Test.YtdgfjneapialdaaGreatDoorQa
namespace Go.Proofs.YtdgfjneapialdaaGreatDoor
open Go

/-- What a queue is. -/
structure QS where
  ck : Int
  row : List ByteArray
  pl : ByteArray → Option Int
  du : ByteArray → Option Int
  fa : ByteArray → Option Int

def QS.new : QS := ⟨0, [], fun _ => none, fun _ => none, fun _ => none⟩
def QS.wait (s : QS) (k : ByteArray) : QS := { s with row := s.row ++ [k], pl := upd s.pl k (some 1) }
def QS.add (s : QS) (k : ByteArray) : QS :=
  if (s.pl k).getD 0 = 0 then s.wait k else if (s.pl k).getD 0 = 2 then { s with pl := upd s.pl k (some 3) } else s
def QS.dueIn (s : QS) (k : ByteArray) (t : Int) : QS :=
  match s.du k with
  | none => { s with du := upd s.du k (some (s.ck + t)) }
  | some was => if s.ck + t < was then { s with du := upd s.du k (some (s.ck + t)) } else s
def QS.done (s : QS) (k : ByteArray) : QS :=
  if (s.pl k).getD 0 = 2 then { s with pl := upd s.pl k none } else if (s.pl k).getD 0 = 3 then s.wait k else s
def QS.take (s : QS) (k : ByteArray) (r : List ByteArray) : QS := { s with row := r, pl := upd s.pl k (some 2) }
def QS.one (s : QS) (k : ByteArray) : QS := QS.add { s with du := upd s.du k none } k
def QS.onward (s : QS) : QS := { s with ck := s.ck + 1 }
def QS.back (n : Int) : Int := if n = 0 then 1 else if n = 1 then 2 else if n = 2 then 4 else 8
def QS.failed (s : QS) (k : ByteArray) : QS := if QS.back ((s.fa k).getD 0) < 8 then { s with fa := upd s.fa k (some ((s.fa k).getD 0 + 1)) } else s
def QS.limited (s : QS) (k : ByteArray) : QS := (s.dueIn k (QS.back ((s.fa k).getD 0))).failed k

/-- What holds of a queue. -/
structure QOk (U : List ByteArray) (s : QS) : Prop where
  nd : s.row.Pairwise fun a b => a ≠ b
  mem : ∀ k, k ∈ s.row ↔ s.pl k = some 1
  pls : ∀ k v, s.pl k = some v → (v = 1 ∨ v = 2 ∨ v = 3) ∧ k ∈ U
  dus : ∀ k t, s.du k = some t → s.ck < t ∧ k ∈ U
  fas : ∀ k v, s.fa k = some v → 1 ≤ v ∧ v ≤ 3
  c0 : 0 ≤ s.ck

theorem QOk.new (U : List ByteArray) : QOk U QS.new := ⟨List.Pairwise.nil, fun k => by simp [QS.new], fun k v h => by simp [QS.new] at h, fun k v h => by simp [QS.new] at h, fun k v h => by simp [QS.new] at h, by simp [QS.new]⟩

section
variable {U : List ByteArray} {s : QS} {k : ByteArray}
theorem QOk.wait (h : QOk U s) (hk : k ∈ U) (hn : s.pl k ≠ some 1) : QOk U (s.wait k) := by
  have hnm : k ∉ s.row := fun e => hn ((h.mem k).1 e)
  refine ⟨?_, ?_, ?_, h.dus, h.fas, h.c0⟩
  · show (s.row ++ [k]).Pairwise _
    rw [List.pairwise_append]
    exact ⟨h.nd, by simp, fun a ha b hb => by simp at hb; subst hb; exact fun e => hnm (e ▸ ha)⟩
  · intro x
    show x ∈ s.row ++ [k] ↔ upd s.pl k (some 1) x = some 1
    by_cases e : x = k
    · subst e; simp [upd_same]
    · rw [upd_other _ e, ← h.mem x]; simp [e]
  · intro x v hx
    change upd s.pl k (some 1) x = some v at hx
    by_cases e : x = k
    · subst e
      rw [upd_same] at hx
      cases hx
      exact ⟨Or.inl rfl, hk⟩
    · rw [upd_other _ e] at hx
      exact h.pls x v hx
theorem QOk.setPl (h : QOk U s) (v : Option Int) (hk : k ∈ U) (hn : s.pl k ≠ some 1) (hv : v = none ∨ v = some 2 ∨ v = some 3) : QOk U { s with pl := upd s.pl k v } := by
  refine ⟨h.nd, ?_, ?_, h.dus, h.fas, h.c0⟩
  · intro x
    show x ∈ s.row ↔ upd s.pl k v x = some 1
    by_cases e : x = k
    · subst e
      rw [upd_same, h.mem x]
      constructor
      · intro h1; exact absurd h1 hn
      · intro h1; rcases hv with rfl | rfl | rfl <;> simp at h1
    · rw [upd_other _ e]; exact h.mem x
  · intro x u hx
    change upd s.pl k v x = some u at hx
    by_cases e : x = k
    · subst e
      rw [upd_same] at hx
      subst hx
      refine ⟨?_, hk⟩
      rcases hv with h1 | h1 | h1 <;> simp at h1 <;> omega
    · rw [upd_other _ e] at hx
      exact h.pls x u hx
theorem pl_ne_one (h : (s.pl k).getD 0 ≠ 1) : s.pl k ≠ some 1 := fun e => h (by rw [e]; rfl)
theorem QOk.add (h : QOk U s) (hk : k ∈ U) : QOk U (s.add k) := by
  unfold QS.add
  split
  · rename_i h0
    exact h.wait hk (pl_ne_one (by omega))
  · split
    · rename_i h2
      exact h.setPl _ hk (pl_ne_one (by omega)) (by simp)
    · exact h
theorem QOk.done (h : QOk U s) (hk : k ∈ U) : QOk U (s.done k) := by
  unfold QS.done
  split
  · rename_i h2
    exact h.setPl _ hk (pl_ne_one (by omega)) (by simp)
  · split
    · rename_i h3
      exact h.wait hk (pl_ne_one (by omega))
    · exact h
theorem QOk.setDu (h : QOk U s) (t : Option Int) (hk : k ∈ U) (ht : ∀ u, t = some u → s.ck < u) : QOk U { s with du := upd s.du k t } := by
  refine ⟨h.nd, h.mem, h.pls, ?_, h.fas, h.c0⟩
  intro x u hx
  change upd s.du k t x = some u at hx
  by_cases e : x = k
  · subst e
    rw [upd_same] at hx
    exact ⟨ht u hx, hk⟩
  · rw [upd_other _ e] at hx
    exact h.dus x u hx
theorem QOk.dueIn (h : QOk U s) (hk : k ∈ U) {t : Int} (ht : 0 < t) : QOk U (s.dueIn k t) := by
  unfold QS.dueIn
  split
  · exact h.setDu _ hk (fun u e => by cases e; omega)
  · split
    · exact h.setDu _ hk (fun u e => by cases e; omega)
    · exact h
theorem QOk.failed (h : QOk U s) : QOk U (s.failed k) := by
  unfold QS.failed
  split
  · rename_i hb
    refine ⟨h.nd, h.mem, h.pls, h.dus, ?_, h.c0⟩
    intro x u hx
    change upd s.fa k _ x = some u at hx
    by_cases e : x = k
    · subst e
      rw [upd_same] at hx
      cases hx
      unfold QS.back at hb
      cases hf : s.fa x with
      | none => simp
      | some v =>
        have := h.fas x v hf
        rw [hf] at hb
        simp at hb ⊢
        split at hb
        · omega
        · split at hb
          · omega
          · split at hb
            · omega
            · omega
    · rw [upd_other _ e] at hx
      exact h.fas x u hx
  · exact h
theorem QOk.take {r : List ByteArray} (h : QOk U s) (hr : s.row = k :: r) : QOk U (s.take k r) := by
  have hk1 : s.pl k = some 1 := (h.mem k).1 (by rw [hr]; simp)
  have hnd := h.nd
  rw [hr] at hnd
  obtain ⟨hn1, hn2⟩ := List.pairwise_cons.1 hnd
  refine ⟨hn2, ?_, ?_, h.dus, h.fas, h.c0⟩
  · intro x
    show x ∈ r ↔ upd s.pl k (some 2) x = some 1
    by_cases e : x = k
    · subst e
      rw [upd_same]
      simp
      intro h1
      exact hn1 x h1 rfl
    · rw [upd_other _ e, ← h.mem x, hr]
      simp [e]
  · intro x u hx
    change upd s.pl k (some 2) x = some u at hx
    by_cases e : x = k
    · subst e
      rw [upd_same] at hx
      cases hx
      exact ⟨by simp, (h.pls x 1 hk1).2⟩
    · rw [upd_other _ e] at hx
      exact h.pls x u hx
theorem QOk.len (h : QOk U s) : s.row.length ≤ U.length := len_le_of_sub _ _ h.nd (fun x hx => (h.pls x 1 ((h.mem x).1 hx)).2)
end

/-- Behind a tick: these keys were due. -/
def QS.ticked (s : QS) (ks : List ByteArray) : QS := ks.foldl QS.one s.onward
/-- Just these are due at the next tick. -/
structure Nexts (s : QS) (ks : List ByteArray) : Prop where
  nd : ks.Pairwise fun a b => a ≠ b
  mem : ∀ k, k ∈ ks ↔ s.du k = some (s.ck + 1)

theorem one_ck (s : QS) (k : ByteArray) : (s.one k).ck = s.ck := by
  unfold QS.one QS.add QS.wait
  split
  · rfl
  · split <;> rfl
theorem add_du (s : QS) (k : ByteArray) : (s.add k).du = s.du ∧ (s.add k).ck = s.ck ∧ (s.add k).fa = s.fa := by
  unfold QS.add QS.wait
  split
  · exact ⟨rfl, rfl, rfl⟩
  · split <;> exact ⟨rfl, rfl, rfl⟩
theorem one_du (s : QS) (k : ByteArray) : (s.one k).du = upd s.du k none := (add_du _ _).1
theorem one_fa (s : QS) (k : ByteArray) : (s.one k).fa = s.fa := (add_du _ _).2.2
/-- Within a tick. -/
structure QMid (U : List ByteArray) (s : QS) (ks : List ByteArray) : Prop where
  nd : s.row.Pairwise fun a b => a ≠ b
  mem : ∀ k, k ∈ s.row ↔ s.pl k = some 1
  pls : ∀ k v, s.pl k = some v → (v = 1 ∨ v = 2 ∨ v = 3) ∧ k ∈ U
  dus : ∀ k t, s.du k = some t → (s.ck < t ∨ (s.ck = t ∧ k ∈ ks)) ∧ k ∈ U
  fas : ∀ k v, s.fa k = some v → 1 ≤ v ∧ v ≤ 3
  c0 : 0 ≤ s.ck
theorem QMid.start {U : List ByteArray} {s : QS} {ks : List ByteArray} (h : QOk U s) (hn : Nexts s ks) : QMid U s.onward ks :=
  ⟨h.nd, h.mem, h.pls, fun k t hk => ⟨by
    have h1 := (h.dus k t hk).1
    show s.ck + 1 < t ∨ (s.ck + 1 = t ∧ k ∈ ks)
    by_cases e : s.ck + 1 = t
    · exact Or.inr ⟨e, (hn.mem k).2 (by rw [e]; exact hk)⟩
    · exact Or.inl (by omega), (h.dus k t hk).2⟩, h.fas, by have := h.c0; show 0 ≤ s.ck + 1; omega⟩
theorem QMid.fin {U : List ByteArray} {s : QS} (h : QMid U s []) : QOk U s :=
  ⟨h.nd, h.mem, h.pls, fun k t hk => ⟨(h.dus k t hk).1.elim id (fun e => by simp at e), (h.dus k t hk).2⟩, h.fas, h.c0⟩
theorem QMid.one {U : List ByteArray} {s : QS} {k : ByteArray} {ks : List ByteArray} (h : QMid U s (k :: ks)) (hk : k ∈ U) : QMid U (s.one k) ks := by
  have h0 : QOk U { s with du := fun _ => none } := ⟨h.nd, h.mem, h.pls, fun k t hk => by simp at hk, h.fas, h.c0⟩
  have h1 := h0.add hk
  have e : ∀ d : ByteArray → Option Int, (QS.add { s with du := d } k).row = (QS.add { s with du := fun _ => none } k).row ∧ (QS.add { s with du := d } k).pl = (QS.add { s with du := fun _ => none } k).pl := by
    intro d
    unfold QS.add QS.wait
    simp only
    split
    · exact ⟨rfl, rfl⟩
    · split <;> exact ⟨rfl, rfl⟩
  have er : (s.one k).row = (QS.add { s with du := fun _ => none } k).row := (e _).1
  have ep : (s.one k).pl = (QS.add { s with du := fun _ => none } k).pl := (e _).2
  refine ⟨er ▸ h1.nd, fun x => by rw [er, ep]; exact h1.mem x, fun x v hx => h1.pls x v (by rw [← ep]; exact hx), ?_, fun x v hx => h.fas x v (by rw [← one_fa s k]; exact hx), by rw [one_ck]; exact h.c0⟩
  intro x t hx
  rw [one_du] at hx
  rw [one_ck]
  by_cases e : x = k
  · subst e; rw [upd_same] at hx; cases hx
  · rw [upd_other _ e] at hx
    obtain ⟨h2, h3⟩ := h.dus x t hx
    refine ⟨h2.imp id (fun ⟨h4, h5⟩ => ⟨h4, ?_⟩), h3⟩
    simpa [e] using h5

end Go.Proofs.YtdgfjneapialdaaGreatDoor
