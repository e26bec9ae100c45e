import Derived.Test.YtdgfjneapialdaaGreatDoorPm
namespace Go.Proofs.YtdgfjneapialdaaGreatDoor
open Go Go.RowKit Go.Maps Go.Lib Go.Sort

/-- The program's queue and the reference's are one. -/
structure Rel (U : List ByteArray) (s : QS) (r : RS) : Prop where
  ck : r.ck = s.ck
  row : r.row = s.row
  rnd : s.row.Pairwise fun a b => a ≠ b
  rmem : ∀ k, k ∈ s.row ↔ s.pl k = some 1
  pls : ∀ k v, s.pl k = some v → (v = 1 ∨ v = 2 ∨ v = 3) ∧ k ∈ U
  hand : ∀ k, k ∈ r.hand ↔ s.pl k = some 2 ∨ s.pl k = some 3
  hnd : r.hand.Pairwise fun a b => a ≠ b
  again : ∀ k, k ∈ r.again ↔ s.pl k = some 3
  and : r.again.Pairwise fun a b => a ≠ b
  dnd : r.dues.Pairwise fun a b => a.1 ≠ b.1
  dmem : ∀ b c, (b, c) ∈ r.dues ↔ s.du (bk b) = some c
  dU : ∀ k t, s.du k = some t → k ∈ U
  fnd : r.fails.Pairwise fun a b => a.1 ≠ b.1
  fmem : ∀ b n, (b, n) ∈ r.fails → 0 ≤ n ∧ (s.fa (bk b)).getD 0 = min n 3 ∧ bk b ∈ U
  fno : ∀ b, (∀ n, (b, n) ∉ r.fails) → (s.fa (bk b)).getD 0 = 0

theorem Rel.new (U : List ByteArray) : Rel U QS.new ⟨0, [], [], [], [], []⟩ := by
  refine ⟨rfl, rfl, List.Pairwise.nil, ?_, ?_, ?_, List.Pairwise.nil, ?_, List.Pairwise.nil, List.Pairwise.nil, ?_, ?_, List.Pairwise.nil, ?_, ?_⟩
  all_goals simp [QS.new]

section
variable {U : List ByteArray} {s : QS} {r : RS} {k : ByteArray}
theorem snoc_nd {l : List ByteArray} (h : l.Pairwise fun a b => a ≠ b) (hk : k ∉ l) : (l ++ [k]).Pairwise fun a b => a ≠ b := by
  rw [List.pairwise_append]
  refine ⟨h, by simp, fun a ha b hb => ?_⟩
  simp at hb
  subst hb
  intro e
  exact hk (e ▸ ha)
theorem less_nd {l : List ByteArray} (h : l.Pairwise fun a b => a ≠ b) : (lessL l k).Pairwise fun a b => a ≠ b := h.filter _
theorem less_mem {l : List ByteArray} {x : ByteArray} : x ∈ lessL l k ↔ x ∈ l ∧ x ≠ k := by simp [lessL]

theorem rel_add (h : Rel U s r) (hk : k ∈ U) : Rel U (s.add k) (r.add k) := by
  have h2 : memB r.hand k = true ↔ s.pl k = some 2 ∨ s.pl k = some 3 := memB_iff.trans (h.hand k)
  have h3 : memB r.again k = true ↔ s.pl k = some 3 := memB_iff.trans (h.again k)
  have h1 : memB r.row k = true ↔ s.pl k = some 1 := by rw [memB_iff, h.row]; exact h.rmem k
  rcases pl_cases h.pls k with e | e | e | e
  · -- apart
    have ep : s.pl k = none := by
      cases ep : s.pl k with
      | none => rfl
      | some v =>
        rw [ep] at e
        have := (h.pls k v ep).1
        simp at e
        omega
    have m2 : memB r.hand k = false := by
      cases hm : memB r.hand k
      · rfl
      · have := h2.1 hm; rw [ep] at this; simp at this
    have m1 : memB r.row k = false := by
      cases hm : memB r.row k
      · rfl
      · have := h1.1 hm; rw [ep] at this; simp at this
    have es : s.add k = s.wait k := by simp [QS.add, ep]
    have er : r.add k = { r with row := r.row ++ [k] } := by simp [RS.add, m2, m1]
    rw [es, er]
    have hnr : k ∉ s.row := fun hm => by have := (h.rmem k).1 hm; rw [ep] at this; simp at this
    refine ⟨h.ck, by show r.row ++ [k] = s.row ++ [k]; rw [h.row], snoc_nd h.rnd hnr, ?_, ?_, ?_, h.hnd, ?_, h.and, h.dnd, h.dmem, h.dU, h.fnd, h.fmem, h.fno⟩
    · intro x
      show x ∈ s.row ++ [k] ↔ upd s.pl k (some 1) x = some 1
      by_cases ex : x = k
      · subst ex; simp [upd_same]
      · rw [upd_other _ ex, ← h.rmem x]; simp [ex]
    · intro x v hx
      change upd s.pl k (some 1) x = some v at hx
      by_cases ex : x = k
      · subst ex; rw [upd_same] at hx; cases hx; exact ⟨by simp, hk⟩
      · rw [upd_other _ ex] at hx; exact h.pls x v hx
    · intro x
      show x ∈ r.hand ↔ upd s.pl k (some 1) x = some 2 ∨ upd s.pl k (some 1) x = some 3
      rw [h.hand x]
      by_cases ex : x = k
      · subst ex; simp [upd_same, ep]
      · rw [upd_other _ ex]
    · intro x
      show x ∈ r.again ↔ upd s.pl k (some 1) x = some 3
      rw [h.again x]
      by_cases ex : x = k
      · subst ex; simp [upd_same, ep]
      · rw [upd_other _ ex]
  · -- waiting
    have ep : s.pl k = some 1 := by
      cases ep : s.pl k with
      | none => rw [ep] at e; simp at e
      | some v => rw [ep] at e; simp at e; rw [e]
    have m2 : memB r.hand k = false := by
      cases hm : memB r.hand k
      · rfl
      · have := h2.1 hm; rw [ep] at this; simp at this
    have m1 : memB r.row k = true := h1.2 ep
    have es : s.add k = s := by simp [QS.add, ep]
    have er : r.add k = r := by simp [RS.add, m2, m1]
    rw [es, er]
    exact h
  · -- in hand
    have ep : s.pl k = some 2 := by
      cases ep : s.pl k with
      | none => rw [ep] at e; simp at e
      | some v => rw [ep] at e; simp at e; rw [e]
    have m2 : memB r.hand k = true := h2.2 (Or.inl ep)
    have m3 : memB r.again k = false := by
      cases hm : memB r.again k
      · rfl
      · have := h3.1 hm; rw [ep] at this; simp at this
    have es : s.add k = { s with pl := upd s.pl k (some 3) } := by simp [QS.add, ep]
    have er : r.add k = { r with again := r.again ++ [k] } := by simp [RS.add, m2, m3]
    rw [es, er]
    have hna : k ∉ r.again := memB_false.1 m3
    refine ⟨h.ck, h.row, h.rnd, ?_, ?_, ?_, h.hnd, ?_, snoc_nd h.and hna, h.dnd, h.dmem, h.dU, h.fnd, h.fmem, h.fno⟩
    · intro x
      show x ∈ s.row ↔ upd s.pl k (some 3) x = some 1
      rw [h.rmem x]
      by_cases ex : x = k
      · subst ex; simp [upd_same, ep]
      · rw [upd_other _ ex]
    · intro x v hx
      change upd s.pl k (some 3) x = some v at hx
      by_cases ex : x = k
      · subst ex; rw [upd_same] at hx; cases hx; exact ⟨by simp, hk⟩
      · rw [upd_other _ ex] at hx; exact h.pls x v hx
    · intro x
      show x ∈ r.hand ↔ upd s.pl k (some 3) x = some 2 ∨ upd s.pl k (some 3) x = some 3
      rw [h.hand x]
      by_cases ex : x = k
      · subst ex; simp [upd_same, ep]
      · rw [upd_other _ ex]
    · intro x
      show x ∈ r.again ++ [k] ↔ upd s.pl k (some 3) x = some 3
      rw [List.mem_append, h.again x]
      by_cases ex : x = k
      · subst ex; simp [upd_same]
      · rw [upd_other _ ex]; simp [ex]
  · -- called again
    have ep : s.pl k = some 3 := by
      cases ep : s.pl k with
      | none => rw [ep] at e; simp at e
      | some v => rw [ep] at e; simp at e; rw [e]
    have m2 : memB r.hand k = true := h2.2 (Or.inr ep)
    have m3 : memB r.again k = true := h3.2 ep
    have es : s.add k = s := by simp [QS.add, ep]
    have er : r.add k = r := by simp [RS.add, m2, m3]
    rw [es, er]
    exact h

theorem rel_take {t : List ByteArray} (h : Rel U s r) (hr : s.row = k :: t) : Rel U (s.take k t) (r.take k) := by
  have ep : s.pl k = some 1 := (h.rmem k).1 (by rw [hr]; simp)
  have hnd := h.rnd
  rw [hr] at hnd
  obtain ⟨n1, n2⟩ := List.pairwise_cons.1 hnd
  have el : lessL r.row k = t := by
    rw [h.row, hr]
    unfold lessL
    rw [List.filter_cons_of_neg (by simp)]
    exact List.filter_eq_self.2 (fun x hx => by simpa using (n1 x hx).symm)
  have hnh : k ∉ r.hand := fun hm => by have := (h.hand k).1 hm; rw [ep] at this; simp at this
  refine ⟨h.ck, el, n2, ?_, ?_, ?_, snoc_nd h.hnd hnh, ?_, h.and, h.dnd, h.dmem, h.dU, h.fnd, h.fmem, h.fno⟩
  · intro x
    show x ∈ t ↔ upd s.pl k (some 2) x = some 1
    by_cases ex : x = k
    · subst ex
      rw [upd_same]
      simp
      exact fun hm => n1 x hm rfl
    · rw [upd_other _ ex, ← h.rmem x, hr]; simp [ex]
  · intro x v hx
    change upd s.pl k (some 2) x = some v at hx
    by_cases ex : x = k
    · subst ex; rw [upd_same] at hx; cases hx; exact ⟨by simp, (h.pls x 1 ep).2⟩
    · rw [upd_other _ ex] at hx; exact h.pls x v hx
  · intro x
    show x ∈ r.hand ++ [k] ↔ upd s.pl k (some 2) x = some 2 ∨ upd s.pl k (some 2) x = some 3
    rw [List.mem_append, h.hand x]
    by_cases ex : x = k
    · subst ex; simp [upd_same]
    · rw [upd_other _ ex]; simp [ex]
  · intro x
    show x ∈ r.again ↔ upd s.pl k (some 2) x = some 3
    rw [h.again x]
    by_cases ex : x = k
    · subst ex; simp [upd_same, ep]
    · rw [upd_other _ ex]

theorem less_self {l : List ByteArray} (hk : k ∉ l) : lessL l k = l := List.filter_eq_self.2 (fun x hx => by
  rw [decide_eq_true_eq]
  intro e
  exact hk (e ▸ hx))

theorem rel_done (h : Rel U s r) (hk : k ∈ U) : Rel U (s.done k) (r.done k) := by
  have h3 : memB r.again k = true ↔ s.pl k = some 3 := memB_iff.trans (h.again k)
  have key : ∀ v, v = 2 ∨ v = 3 → s.pl k = some v → ∀ p : Option Int, (p = none ∨ p = some 1) → (∀ x, x ∈ lessL r.hand k ↔ upd s.pl k p x = some 2 ∨ upd s.pl k p x = some 3) ∧ ∀ x, x ∈ lessL r.again k ↔ upd s.pl k p x = some 3 := by
    intro v _ _ p hp
    refine ⟨fun x => ?_, fun x => ?_⟩
    · rw [less_mem, h.hand x]
      by_cases ex : x = k
      · subst ex
        rw [upd_same]
        rcases hp with rfl | rfl <;> simp
      · rw [upd_other _ ex]; simp [ex]
    · rw [less_mem, h.again x]
      by_cases ex : x = k
      · subst ex
        rw [upd_same]
        rcases hp with rfl | rfl <;> simp
      · rw [upd_other _ ex]; simp [ex]
  by_cases e2 : (s.pl k).getD 0 = 2
  · have ep : s.pl k = some 2 := by
      cases ep : s.pl k with
      | none => rw [ep] at e2; simp at e2
      | some v => rw [ep] at e2; simp at e2; rw [e2]
    have m3 : memB r.again k = false := by
      cases hm : memB r.again k
      · rfl
      · have := h3.1 hm; rw [ep] at this; simp at this
    obtain ⟨k1, k2⟩ := key 2 (by simp) ep none (by simp)
    have es : s.done k = { s with pl := upd s.pl k none } := by simp [QS.done, ep]
    have er : r.done k = { r with hand := lessL r.hand k, again := lessL r.again k } := by simp [RS.done, m3]
    rw [es, er]
    refine ⟨h.ck, h.row, h.rnd, ?_, ?_, k1, less_nd h.hnd, k2, less_nd h.and, h.dnd, h.dmem, h.dU, h.fnd, h.fmem, h.fno⟩
    · intro x
      show x ∈ s.row ↔ upd s.pl k none x = some 1
      rw [h.rmem x]
      by_cases ex : x = k
      · subst ex; simp [upd_same, ep]
      · rw [upd_other _ ex]
    · intro x v hx
      change upd s.pl k none x = some v at hx
      by_cases ex : x = k
      · subst ex; rw [upd_same] at hx; cases hx
      · rw [upd_other _ ex] at hx; exact h.pls x v hx
  · by_cases e3 : (s.pl k).getD 0 = 3
    · have ep : s.pl k = some 3 := by
        cases ep : s.pl k with
        | none => rw [ep] at e3; simp at e3
        | some v => rw [ep] at e3; simp at e3; rw [e3]
      have m3 : memB r.again k = true := h3.2 ep
      obtain ⟨k1, k2⟩ := key 3 (by simp) ep (some 1) (by simp)
      have es : s.done k = s.wait k := by simp [QS.done, ep]
      have er : r.done k = { r with hand := lessL r.hand k, again := lessL r.again k, row := r.row ++ [k] } := by simp [RS.done, m3]
      rw [es, er]
      have hnr : k ∉ s.row := fun hm => by have := (h.rmem k).1 hm; rw [ep] at this; simp at this
      refine ⟨h.ck, by show r.row ++ [k] = s.row ++ [k]; rw [h.row], snoc_nd h.rnd hnr, ?_, ?_, k1, less_nd h.hnd, k2, less_nd h.and, h.dnd, h.dmem, h.dU, h.fnd, h.fmem, h.fno⟩
      · intro x
        show x ∈ s.row ++ [k] ↔ upd s.pl k (some 1) x = some 1
        by_cases ex : x = k
        · subst ex; simp [upd_same]
        · rw [upd_other _ ex, ← h.rmem x]; simp [ex]
      · intro x v hx
        change upd s.pl k (some 1) x = some v at hx
        by_cases ex : x = k
        · subst ex; rw [upd_same] at hx; cases hx; exact ⟨by simp, hk⟩
        · rw [upd_other _ ex] at hx; exact h.pls x v hx
    · have n2 : s.pl k ≠ some 2 := fun e => e2 (by rw [e]; rfl)
      have n3 : s.pl k ≠ some 3 := fun e => e3 (by rw [e]; rfl)
      have hnh : k ∉ r.hand := fun hm => ((h.hand k).1 hm).elim n2 n3
      have hna : k ∉ r.again := fun hm => n3 ((h.again k).1 hm)
      have m3 : memB r.again k = false := memB_false.2 hna
      have es : s.done k = s := by simp [QS.done, e2, e3]
      have er : r.done k = r := by simp [RS.done, m3, less_self hnh, less_self hna]
      rw [es, er]
      exact h
end

end Go.Proofs.YtdgfjneapialdaaGreatDoor
namespace Go.Proofs.YtdgfjneapialdaaGreatDoor
open Go Go.RowKit Go.Maps Go.Lib Go.Sort

theorem soonT_no {k : List UInt8} {l : List Dk} (h : ∀ c, (k, c) ∉ l) (t : Int) : soonT k t l = t := by
  unfold soonT
  induction l with
  | nil => rfl
  | cons x r ih =>
    have hx : ¬ (x.1 = k ∧ x.2 < t) := fun ⟨e, _⟩ => h x.2 (by rw [← e]; simp)
    rw [List.foldl_cons, if_neg hx]
    exact ih (fun c hc => h c (by simp [hc]))
theorem soonT_one {k : List UInt8} {l : List Dk} (hnd : l.Pairwise fun a b => a.1 ≠ b.1) {c : Int} (h : (k, c) ∈ l) (t : Int) : soonT k t l = if c < t then c else t := by
  induction l generalizing t with
  | nil => simp at h
  | cons x r ih =>
    obtain ⟨h1, h2⟩ := List.pairwise_cons.1 hnd
    unfold soonT
    rw [List.foldl_cons]
    rcases List.mem_cons.1 h with e | hr
    · have hno : ∀ c', (k, c') ∉ r := fun c' hc' => h1 (k, c') hc' (by rw [← e])
      have := soonT_no hno
      unfold soonT at this
      rw [this]
      subst e
      simp
    · have hx : ¬ (x.1 = k ∧ x.2 < t) := fun ⟨e, _⟩ => h1 (k, c) hr e
      rw [if_neg hx]
      exact ih h2 hr t
theorem others_no {k : List UInt8} {l : List Dk} (h : ∀ c, (k, c) ∉ l) : others k l = l := List.filter_eq_self.2 (fun x hx => by
  rw [decide_eq_true_eq]
  intro e
  exact h x.2 (by rw [← e]; exact hx))
theorem others_mem {k : List UInt8} {l : List Dk} {x : Dk} : x ∈ others k l ↔ x ∈ l ∧ x.1 ≠ k := by simp [others]

section
variable {U : List ByteArray} {s : QS} {r : RS} {k : ByteArray}

/-- Another due is laid in. -/
theorem Rel.due (h : Rel U s r) (hk : k ∈ U) (t : Int) : Rel U { s with du := upd s.du k (some t) } { r with dues := others k.data.toList r.dues ++ [(k.data.toList, t)] } := by
  refine ⟨h.ck, h.row, h.rnd, h.rmem, h.pls, h.hand, h.hnd, h.again, h.and, ?_, ?_, ?_, h.fnd, h.fmem, h.fno⟩
  · show (others k.data.toList r.dues ++ [(k.data.toList, t)]).Pairwise _
    rw [List.pairwise_append]
    refine ⟨h.dnd.filter _, by simp, fun a ha b hb => ?_⟩
    simp at hb
    subst hb
    exact (others_mem.1 ha).2
  · intro b c
    show (b, c) ∈ others k.data.toList r.dues ++ [(k.data.toList, t)] ↔ upd s.du k (some t) (bk b) = some c
    rw [List.mem_append, others_mem, h.dmem]
    by_cases e : bk b = k
    · have eb := bk_eq_iff.1 e
      rw [e, upd_same]
      simp [eb, eq_comm]
    · have eb : b ≠ k.data.toList := fun h => e (bk_eq_iff.2 h)
      rw [upd_other _ e]
      simp [eb]
  · intro x t' hx
    change upd s.du k (some t) x = some t' at hx
    by_cases e : x = k
    · rw [e]; exact hk
    · rw [upd_other _ e] at hx; exact h.dU x t' hx

theorem rel_dueIn (h : Rel U s r) (hk : k ∈ U) (t : Int) : Rel U (s.dueIn k t) (r.dueIn k t) := by
  have hbk : bk k.data.toList = k := bk_data k
  unfold QS.dueIn RS.dueIn
  cases hd : s.du k with
  | none =>
    have hno : ∀ c, (k.data.toList, c) ∉ r.dues := fun c hc => by
      have := (h.dmem _ c).1 hc
      rw [hbk, hd] at this
      cases this
    have e : soonT k.data.toList (r.ck + t) r.dues = s.ck + t := by rw [soonT_no hno, h.ck]
    rw [e]
    exact h.due hk _
  | some was =>
    have hin : (k.data.toList, was) ∈ r.dues := (h.dmem _ was).2 (by rw [hbk]; exact hd)
    have e : soonT k.data.toList (r.ck + t) r.dues = if was < s.ck + t then was else s.ck + t := by rw [soonT_one h.dnd hin, h.ck]
    rw [e]
    simp only
    by_cases hlt : s.ck + t < was
    · rw [if_pos hlt, if_neg (by omega)]
      exact h.due hk _
    · rw [if_neg hlt]
      have e2 : (if was < s.ck + t then was else s.ck + t) = was := by
        split
        · rfl
        · omega
      rw [e2]
      have := h.due hk was
      have eu : upd s.du k (some was) = s.du := by
        funext x
        by_cases ex : x = k
        · rw [ex, upd_same, hd]
        · rw [upd_other _ ex]
      rw [eu] at this
      exact this

theorem rel_forget (h : Rel U s r) : Rel U (s.forget k) (r.forget k) := by
  have hbk : bk k.data.toList = k := bk_data k
  refine ⟨h.ck, h.row, h.rnd, h.rmem, h.pls, h.hand, h.hnd, h.again, h.and, h.dnd, h.dmem, h.dU, ?_, ?_, ?_⟩
  · show (r.fails.map (clear1 k.data.toList)).Pairwise _
    rw [List.pairwise_map]
    refine h.fnd.imp (fun {a b} hab => ?_)
    unfold clear1
    split <;> split <;> exact hab
  · intro b n hm
    obtain ⟨x, hx, e⟩ := List.mem_map.1 hm
    unfold clear1 at e
    show 0 ≤ n ∧ (upd s.fa k none (bk b)).getD 0 = min n 3 ∧ bk b ∈ U
    split at e
    · rename_i hk'
      cases e
      have hb : bk x.1 = k := bk_eq_iff.2 hk'
      obtain ⟨_, _, hU⟩ := h.fmem x.1 x.2 hx
      refine ⟨by omega, ?_, hU⟩
      rw [hb, upd_same]
      rfl
    · rename_i hk'
      subst e
      have hb : bk b ≠ k := fun e => hk' (bk_eq_iff.1 e)
      rw [upd_other _ hb]
      exact h.fmem b n hx
  · intro b hno
    show (upd s.fa k none (bk b)).getD 0 = 0
    by_cases hb : bk b = k
    · rw [hb, upd_same]; rfl
    · rw [upd_other _ hb]
      refine h.fno b (fun n hn => hno n ?_)
      refine List.mem_map.2 ⟨(b, n), hn, ?_⟩
      unfold clear1
      rw [if_neg (fun e => hb (bk_eq_iff.2 e))]

theorem limW_no {k : List UInt8} {l : List Dk} (h : ∀ c, (k, c) ∉ l) (w : Int) : l.foldl (fun w x => if x.1 = k then grow8 w x.2.toNat else w) w = w := by
  induction l with
  | nil => rfl
  | cons x r ih =>
    have hx : ¬ x.1 = k := fun e => h x.2 (by rw [← e]; simp)
    rw [List.foldl_cons, if_neg hx]
    exact ih (fun c hc => h c (by simp [hc]))
theorem limW_one {k : List UInt8} {l : List Dk} (hnd : l.Pairwise fun a b => a.1 ≠ b.1) {c : Int} (h : (k, c) ∈ l) (w : Int) : l.foldl (fun w x => if x.1 = k then grow8 w x.2.toNat else w) w = grow8 w c.toNat := by
  induction l generalizing w with
  | nil => simp at h
  | cons x r ih =>
    obtain ⟨h1, h2⟩ := List.pairwise_cons.1 hnd
    rw [List.foldl_cons]
    rcases List.mem_cons.1 h with e | hr
    · have hno : ∀ c', (k, c') ∉ r := fun c' hc' => h1 (k, c') hc' (by rw [← e])
      rw [limW_no hno]
      subst e
      simp
    · have hx : ¬ x.1 = k := fun e => h1 (k, c) hr e
      rw [if_neg hx]
      exact ih h2 hr w
theorem grow_back (n : Int) (h0 : 0 ≤ n) : grow8 1 n.toNat = QS.back (min n 3) := by
  have g0 : grow8 1 0 = 1 := rfl
  have g1 : grow8 1 1 = 2 := by decide
  have g2 : grow8 1 2 = 4 := by decide
  have g3 : grow8 1 3 = 8 := by decide
  unfold QS.back
  by_cases e0 : n = 0
  · subst e0; rw [show min (0 : Int) 3 = 0 by decide]; simp [g0]
  · by_cases e1 : n = 1
    · subst e1; rw [show min (1 : Int) 3 = 1 by decide]; simp [g1]
    · by_cases e2 : n = 2
      · subst e2; rw [show min (2 : Int) 3 = 2 by decide]; simp [g2]
      · have h3 : min n 3 = 3 := by omega
        have := grow8_stop 1 3 (by rw [g3]; omega) (n.toNat - 3)
        rw [show 3 + (n.toNat - 3) = n.toNat by omega, g3] at this
        rw [this, h3]
        simp
theorem hasK_iff {k : List UInt8} {l : List Dk} : hasK k l = true ↔ ∃ c, (k, c) ∈ l := by
  unfold hasK
  rw [List.any_eq_true]
  constructor
  · rintro ⟨x, hx, e⟩
    rw [decide_eq_true_eq] at e
    exact ⟨x.2, by rw [← e]; exact hx⟩
  · rintro ⟨c, hc⟩
    exact ⟨(k, c), hc, by simp⟩

theorem rel_failed (h : Rel U s r) (hk : k ∈ U) : Rel U (s.failed k) { r with fails := r.fails.map (bump1 k.data.toList) ++ (if hasK k.data.toList r.fails then [] else [(k.data.toList, 1)]) } ∧ QS.back ((s.fa k).getD 0) = limW k.data.toList r.fails := by
  have hbk : bk k.data.toList = k := bk_data k
  have hmapnd : (r.fails.map (bump1 k.data.toList)).Pairwise fun a b => a.1 ≠ b.1 := by
    rw [List.pairwise_map]
    refine h.fnd.imp (fun {a b} hab => ?_)
    unfold bump1
    split <;> split <;> exact hab
  by_cases hh : hasK k.data.toList r.fails = true
  · obtain ⟨n, hn⟩ := hasK_iff.1 hh
    obtain ⟨n0, nf, _⟩ := h.fmem _ n hn
    rw [hbk] at nf
    have hw : QS.back ((s.fa k).getD 0) = limW k.data.toList r.fails := by
      unfold limW
      rw [limW_one h.fnd hn, nf, grow_back n n0]
    refine ⟨?_, hw⟩
    rw [if_pos hh, List.append_nil]
    have hfa : ∀ b m, (b, m) ∈ r.fails.map (bump1 k.data.toList) → 0 ≤ m ∧ ((s.failed k).fa (bk b)).getD 0 = min m 3 ∧ bk b ∈ U := by
      intro b m hm
      obtain ⟨x, hx, e⟩ := List.mem_map.1 hm
      unfold bump1 at e
      split at e
      · rename_i hk'
        cases e
        have hb : bk x.1 = k := bk_eq_iff.2 hk'
        obtain ⟨m0, mf, mU⟩ := h.fmem x.1 x.2 hx
        refine ⟨by omega, ?_, mU⟩
        rw [hb] at mf ⊢
        have hv : min x.2 3 = 0 ∨ min x.2 3 = 1 ∨ min x.2 3 = 2 ∨ min x.2 3 = 3 := by omega
        have hfl : ∀ v : Int, (s.fa k).getD 0 = v → QS.back v < 8 → ((s.failed k).fa k).getD 0 = v + 1 := by
          intro v hv1 hv2
          unfold QS.failed
          rw [hv1, if_pos hv2]
          show (upd s.fa k (some (v + 1)) k).getD 0 = v + 1
          rw [upd_same]
          rfl
        rcases hv with hv | hv | hv | hv
        · rw [hfl 0 (by rw [mf, hv]) (by decide)]
          omega
        · rw [hfl 1 (by rw [mf, hv]) (by decide)]
          omega
        · rw [hfl 2 (by rw [mf, hv]) (by decide)]
          omega
        · have : s.failed k = s := by
            unfold QS.failed
            rw [mf, hv, if_neg (by decide)]
          rw [this, mf]
          omega
      · rename_i hk'
        subst e
        have hb : bk b ≠ k := fun e => hk' (bk_eq_iff.1 e)
        obtain ⟨m0, mf, mU⟩ := h.fmem b m hx
        refine ⟨m0, ?_, mU⟩
        unfold QS.failed
        split
        · show (upd s.fa k _ (bk b)).getD 0 = _
          rw [upd_other _ hb]
          exact mf
        · exact mf
    have hno : ∀ b, (∀ m, (b, m) ∉ r.fails.map (bump1 k.data.toList)) → ((s.failed k).fa (bk b)).getD 0 = 0 := by
      intro b hb
      have hne : bk b ≠ k := fun e => by
        have := bk_eq_iff.1 e
        refine hb (n + 1) (List.mem_map.2 ⟨(k.data.toList, n), hn, ?_⟩)
        unfold bump1
        simp [this]
      have := h.fno b (fun m hm => hb m (List.mem_map.2 ⟨(b, m), hm, by unfold bump1; rw [if_neg (fun e => hne (bk_eq_iff.2 e))]⟩))
      unfold QS.failed
      split
      · show (upd s.fa k _ (bk b)).getD 0 = 0
        rw [upd_other _ hne]
        exact this
      · exact this
    have efl : (s.failed k).ck = s.ck ∧ (s.failed k).row = s.row ∧ (s.failed k).pl = s.pl ∧ (s.failed k).du = s.du := by
      unfold QS.failed
      split <;> exact ⟨rfl, rfl, rfl, rfl⟩
    obtain ⟨e1, e2, e3, e4⟩ := efl
    exact ⟨by rw [e1]; exact h.ck, by rw [e2]; exact h.row, by rw [e2]; exact h.rnd, fun x => by rw [e2, e3]; exact h.rmem x, fun x v hx => h.pls x v (by rw [← e3]; exact hx), fun x => by rw [e3]; exact h.hand x, h.hnd, fun x => by rw [e3]; exact h.again x, h.and, h.dnd, fun b c => by rw [e4]; exact h.dmem b c, fun x t hx => h.dU x t (by rw [← e4]; exact hx), hmapnd, hfa, hno⟩
  · have hno0 : ∀ c, (k.data.toList, c) ∉ r.fails := fun c hc => hh (hasK_iff.2 ⟨c, hc⟩)
    have f0 := h.fno _ hno0
    rw [hbk] at f0
    have hw : QS.back ((s.fa k).getD 0) = limW k.data.toList r.fails := by
      unfold limW
      rw [limW_no hno0, f0]
      rfl
    refine ⟨?_, hw⟩
    rw [if_neg hh]
    have emap : r.fails.map (bump1 k.data.toList) = r.fails := by
      have : ∀ x ∈ r.fails, bump1 k.data.toList x = x := fun x hx => by
        unfold bump1
        rw [if_neg (fun e => hno0 x.2 (by rw [← e]; exact hx))]
      rw [List.map_congr_left this, List.map_id']
    rw [emap]
    have es : s.failed k = { s with fa := upd s.fa k (some 1) } := by
      unfold QS.failed
      rw [f0, if_pos (by decide)]
      rfl
    rw [es]
    refine ⟨h.ck, h.row, h.rnd, h.rmem, h.pls, h.hand, h.hnd, h.again, h.and, h.dnd, h.dmem, h.dU, ?_, ?_, ?_⟩
    · show (r.fails ++ [(k.data.toList, 1)]).Pairwise _
      rw [List.pairwise_append]
      refine ⟨h.fnd, by simp, fun a ha b hb => ?_⟩
      simp at hb
      subst hb
      intro e
      have e' : a.1 = k.data.toList := e
      exact hno0 a.2 (by rw [← e']; exact ha)
    · intro b n hm
      show 0 ≤ n ∧ (upd s.fa k (some 1) (bk b)).getD 0 = min n 3 ∧ bk b ∈ U
      rcases List.mem_append.1 hm with hm | hm
      · have hb : bk b ≠ k := fun e => hno0 n (by rw [← bk_eq_iff.1 e]; exact hm)
        rw [upd_other _ hb]
        exact h.fmem b n hm
      · simp at hm
        obtain ⟨rfl, rfl⟩ := hm
        rw [hbk, upd_same]
        exact ⟨by omega, by decide, hk⟩
    · intro b hb
      show (upd s.fa k (some 1) (bk b)).getD 0 = 0
      have hne : bk b ≠ k := fun e => hb 1 (List.mem_append.2 (Or.inr (by simp [bk_eq_iff.1 e])))
      rw [upd_other _ hne]
      exact h.fno b (fun n hn => hb n (List.mem_append.2 (Or.inl hn)))

theorem failed_dueIn (s : QS) (k : ByteArray) (t : Int) : (s.dueIn k t).failed k = (s.failed k).dueIn k t := by
  have e1 : (s.dueIn k t).fa = s.fa := dueIn_fa s k t
  have e2 : (s.failed k).du = s.du ∧ (s.failed k).ck = s.ck := by
    unfold QS.failed
    split <;> exact ⟨rfl, rfl⟩
  unfold QS.dueIn
  rw [e2.1, e2.2]
  cases hd : s.du k with
  | none =>
    simp only
    unfold QS.failed
    simp only
    split <;> rfl
  | some was =>
    simp only
    split
    · unfold QS.failed
      simp only
      split <;> rfl
    · rfl

theorem rel_limited (h : Rel U s r) (hk : k ∈ U) : Rel U (s.limited k) (r.limited k) := by
  obtain ⟨h1, h2⟩ := rel_failed h hk
  unfold QS.limited RS.limited
  rw [failed_dueIn, h2]
  have hb := limW_bd k.data.toList r.fails
  have e : min (limW k.data.toList r.fails) 1000 = limW k.data.toList r.fails := by omega
  rw [e]
  exact rel_dueIn h1 hk _
end

end Go.Proofs.YtdgfjneapialdaaGreatDoor
namespace Go.Proofs.YtdgfjneapialdaaGreatDoor
open Go Go.RowKit Go.Maps Go.Lib Go.Sort

theorem withoutL_perm (l : List Dk) (i : Nat) (hi : i < l.length) : (l[i] :: withoutL l i).Perm l := by
  unfold withoutL
  have h : l = l.take i ++ l[i] :: l.drop (i + 1) := by
    rw [← List.drop_eq_getElem_cons hi, List.take_append_drop]
  conv => rhs; rw [h]
  exact List.perm_middle.symm
section
variable {U : List ByteArray} {s : QS} {r : RS}

/-- One that is due is struck. -/
theorem Rel.strike (h : Rel U s r) (i : Nat) (hi : i < r.dues.length) : Rel U { s with du := upd s.du (bk r.dues[i].1) none } { r with dues := withoutL r.dues i } := by
  have hp := withoutL_perm r.dues i hi
  have hnd : (r.dues[i] :: withoutL r.dues i).Pairwise fun a b => a.1 ≠ b.1 := (hp.pairwise_iff (fun {_ _} h => Ne.symm h)).2 h.dnd
  obtain ⟨n1, n2⟩ := List.pairwise_cons.1 hnd
  refine ⟨h.ck, h.row, h.rnd, h.rmem, h.pls, h.hand, h.hnd, h.again, h.and, n2, ?_, ?_, h.fnd, h.fmem, h.fno⟩
  · intro b c
    show (b, c) ∈ withoutL r.dues i ↔ upd s.du (bk r.dues[i].1) none (bk b) = some c
    by_cases e : b = r.dues[i].1
    · rw [e, upd_same]
      constructor
      · intro hm
        exact absurd rfl (n1 (r.dues[i].1, c) hm)
      · intro hc; cases hc
    · rw [upd_other _ (fun h => e (bk_inj h)), ← h.dmem]
      have := hp.mem_iff (a := (b, c))
      rw [List.mem_cons] at this
      rw [← this]
      constructor
      · intro hm; exact Or.inr hm
      · rintro (hm | hm)
        · exact absurd (by rw [← hm]) e
        · exact hm
  · intro x t hx
    change upd s.du _ none x = some t at hx
    by_cases e : x = bk r.dues[i].1
    · rw [e, upd_same] at hx; cases hx
    · rw [upd_other _ e] at hx; exact h.dU x t hx

theorem rel_tickR {c : Int} {r' : RS} (ht : TickR c r r') : ∀ {s : QS} {kb : List (List UInt8)}, Rel U s r → (∀ b t, s.du (bk b) = some t → c ≤ t) → (∀ b, b ∈ kb ↔ s.du (bk b) = some c) → (kb.Pairwise fun a b => a ≤ b) → (kb.Pairwise fun a b => a ≠ b) → Rel U ((kb.map bk).foldl QS.one s) r' := by
  induction ht with
  | @stop r bb hb hne =>
    intro s kb h hge hkb _ _
    cases kb with
    | nil => exact h
    | cons b0 rest =>
      exfalso
      have hd0 := (hkb b0).1 (by simp)
      have hin := (h.dmem b0 c).2 hd0
      obtain ⟨j0, hj0, e0⟩ := List.getElem_of_mem hin
      rcases hb with ⟨hz, _⟩ | ⟨b, hbl, _, e1, hmin⟩
      · omega
      · have hn := hne b hbl e1
        have hm := hmin j0 hj0 hj0
        rw [e0] at hm
        have hmem : (r.dues[b].1, r.dues[b].2) ∈ r.dues := List.getElem_mem hbl
        have := hge _ _ ((h.dmem _ _).1 hmem)
        unfold ltP at hm
        simp only [not_or] at hm
        omega
  | @step r r' i hi hm hc _ ih =>
    intro s kb h hge hkb hs hnd
    have hmem : (r.dues[i].1, c) ∈ r.dues := by
      have := List.getElem_mem hi
      rw [← hc]
      exact this
    have hik : r.dues[i].1 ∈ kb := (hkb _).2 ((h.dmem _ _).1 hmem)
    cases kb with
    | nil => simp at hik
    | cons b0 rest =>
      obtain ⟨s1, s2⟩ := List.pairwise_cons.1 hs
      obtain ⟨d1, d2⟩ := List.pairwise_cons.1 hnd
      have hin := (h.dmem b0 c).2 ((hkb b0).1 (by simp))
      obtain ⟨j0, hj0, e0⟩ := List.getElem_of_mem hin
      have hmin := hm j0 hj0
      rw [e0] at hmin
      unfold ltP at hmin
      simp only [not_or, not_and] at hmin
      have hnlt : ¬ b0 < r.dues[i].1 := hmin.2 hc.symm
      have e : b0 = r.dues[i].1 := by
        rcases List.mem_cons.1 hik with e | hr
        · exact e.symm
        · exact List.le_antisymm (s1 _ hr) (List.not_lt.1 hnlt)
      have hU : bk r.dues[i].1 ∈ U := h.dU _ c ((h.dmem _ _).1 hmem)
      have hstr := rel_add (h.strike i hi) hU
      have hdu : (s.one (bk b0)).du = upd s.du (bk b0) none := one_du s (bk b0)
      rw [List.map_cons, List.foldl_cons]
      refine ih (by rw [e]; exact hstr) ?_ ?_ s2 d2
      · intro b t hb
        rw [hdu] at hb
        by_cases eb : bk b = bk b0
        · rw [eb, upd_same] at hb; cases hb
        · rw [upd_other _ eb] at hb; exact hge b t hb
      · intro b
        rw [hdu]
        by_cases eb : bk b = bk b0
        · rw [eb, upd_same]
          constructor
          · intro hb
            have : b = b0 := bk_inj eb
            exact absurd this.symm (by rw [this] at hb; exact fun _ => d1 b0 hb rfl)
          · intro hc'; cases hc'
        · rw [upd_other _ eb, ← hkb b, List.mem_cons]
          constructor
          · intro hb; exact Or.inr hb
          · rintro (hb | hb)
            · exact absurd (by rw [hb]) eb
            · exact hb

theorem rel_tick (h : Rel U s r) (hO : ∀ k t, s.du k = some t → s.ck < t) {kb : List (List UInt8)} (hn : Nexts s (kb.map bk)) (hs : kb.Pairwise fun a b => a ≤ b) {r' : RS} (ht : TickR (r.ck + 1) { r with ck := r.ck + 1 } r') : Rel U (s.ticked (kb.map bk)) r' := by
  have h0 : Rel U s.onward { r with ck := r.ck + 1 } := ⟨by show r.ck + 1 = s.ck + 1; rw [h.ck], h.row, h.rnd, h.rmem, h.pls, h.hand, h.hnd, h.again, h.and, h.dnd, h.dmem, h.dU, h.fnd, h.fmem, h.fno⟩
  refine rel_tickR ht h0 ?_ ?_ hs ?_
  · intro b t hb
    have := hO _ t hb
    rw [h.ck]
    omega
  · intro b
    have := hn.mem (bk b)
    rw [List.mem_map] at this
    show _ ↔ s.du (bk b) = some (r.ck + 1)
    rw [h.ck, ← this]
    constructor
    · intro hb; exact ⟨b, hb, rfl⟩
    · rintro ⟨x, hx, e⟩; rw [← bk_inj e]; exact hx
  · have := hn.nd
    rw [List.pairwise_map] at this
    exact this.imp (fun hne e => hne (by rw [e]))

/-- Two that are in order and have the same members are one. -/
theorem sel_eq {l out : List Dk} (h : Sel l out) : ∀ {m : List Dk}, m.Perm l → (l.Pairwise fun a b => a.1 ≠ b.1) → (m.Pairwise fun a b => ¬ ltP b a) → m = out := by
  induction h with
  | nil => intro m hp _ _; exact List.Perm.eq_nil hp
  | @cons l t i hi hmin hsel ih =>
    intro m hp hnd hs
    have hpw := withoutL_perm l i hi
    cases m with
    | nil =>
      have := hp.length_eq
      simp at this
      omega
    | cons x rest =>
      obtain ⟨s1, s2⟩ := List.pairwise_cons.1 hs
      have hndc : (l[i] :: withoutL l i).Pairwise fun a b => a.1 ≠ b.1 := (hpw.pairwise_iff (fun {_ _} h => Ne.symm h)).2 hnd
      have hxl : x ∈ l := hp.mem_iff.1 (by simp)
      have hil : l[i] ∈ x :: rest := hp.mem_iff.2 (List.getElem_mem hi)
      have e : x = l[i] := by
        rcases List.mem_cons.1 hil with e | hr
        · exact e.symm
        · have h1 := s1 _ hr
          obtain ⟨j, hj, ej⟩ := List.getElem_of_mem hxl
          have h2 := hmin j hj
          rw [ej] at h2
          unfold ltP at h1 h2
          simp only [not_or, not_and] at h1 h2
          have e2 : x.2 = l[i].2 := by omega
          have e1 : x.1 = l[i].1 := List.le_antisymm (List.not_lt.1 (h1.2 e2.symm)) (List.not_lt.1 (h2.2 e2))
          exact Prod.ext e1 e2
      subst e
      have hp2 : rest.Perm (withoutL l i) := (List.perm_cons _).1 (hp.trans hpw.symm)
      rw [ih hp2 (List.pairwise_cons.1 hndc).2 s2]

theorem rel_told (h : Rel U s r) {out l : List Dk} (hsel : Sel r.dues out) (hsnd : ∀ x ∈ l, s.du (bk x.1) = some x.2) (hcmp : ∀ b c, s.du (bk b) = some c → (b, c) ∈ l) (hnd : l.Pairwise fun a b => a.1 ≠ b.1) (hs : l.Pairwise fun a b => ¬ ltP b a) : l = out := by
  refine sel_eq hsel ?_ h.dnd hs
  have n1 : l.Nodup := hnd.imp (fun hne e => hne (by rw [e]))
  have n2 : r.dues.Nodup := h.dnd.imp (fun hne e => hne (by rw [e]))
  refine (List.perm_ext_iff_of_nodup n1 n2).2 (fun x => ?_)
  constructor
  · intro hx
    exact (h.dmem x.1 x.2).2 (hsnd x hx)
  · intro hx
    exact hcmp x.1 x.2 ((h.dmem x.1 x.2).1 hx)
end

end Go.Proofs.YtdgfjneapialdaaGreatDoor
