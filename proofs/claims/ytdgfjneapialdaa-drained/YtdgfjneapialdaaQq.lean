import Derived.Test.YtdgfjneapialdaaQl
namespace Go.Proofs.Ytdgfjneapialdaa
open Go

def KS : List ByteArray := [⟨#[97]⟩, ⟨#[98]⟩, ⟨#[99]⟩, ⟨#[100, 100]⟩, ⟨#[101]⟩, ⟨#[102, 102, 102, 102, 102, 102, 102, 102]⟩]
def KX : ByteArray := ⟨#[120]⟩
def UU : List ByteArray := KS ++ [KX]
theorem KS_nd : KS.Pairwise fun a b => a ≠ b := by simp [KS]
theorem KX_not : KX ∉ KS := by simp [KS, KX]
theorem KS_len : KS.length = 6 := rfl
theorem UU_len : UU.length = 7 := rfl
theorem UU_8 : ∀ k ∈ UU, 1 ≤ k.size ∧ k.size ≤ 8 := by
  intro k hk
  simp only [UU, KS, KX, List.cons_append, List.nil_append, List.mem_cons, List.not_mem_nil, or_false] at hk
  rcases hk with rfl | rfl | rfl | rfl | rfl | rfl | rfl <;> decide
theorem KS_U {k : ByteArray} (h : k ∈ KS) : k ∈ UU := List.mem_append_left _ h
theorem KX_U : KX ∈ UU := by simp [UU]

def askedB (s : QS) (k : ByteArray) : Bool := s.pl k == some 1 || s.pl k == some 3 || (s.du k).isSome
def handB (s : QS) (k : ByteArray) : Bool := s.pl k == some 2 || s.pl k == some 3

/-- What holds of the queue of the walk. -/
structure DrI (T : Int) (s : QS) : Prop where
  ok : QOk UU s
  plK : ∀ k, s.pl k ≠ none → k ∈ KS
  duK : ∀ k t, s.du k = some t → k ∈ KS ∧ t ≤ T

theorem getD_zero {s : QS} (hp : ∀ k v, s.pl k = some v → (v = 1 ∨ v = 2 ∨ v = 3) ∧ k ∈ UU) {k : ByteArray} (h : (s.pl k).getD 0 = 0) : s.pl k = none := by
  cases e : s.pl k with
  | none => rfl
  | some v =>
    rw [e] at h
    have := (hp k v e).1
    simp at h
    omega
theorem getD_some {s : QS} {k : ByteArray} {v : Int} (hv : v ≠ 0) (h : (s.pl k).getD 0 = v) : s.pl k = some v := by
  cases e : s.pl k with
  | none => rw [e] at h; simp at h; omega
  | some u => rw [e] at h; simp at h; rw [h]

theorem asked_congr {s s' : QS} {k : ByteArray} (h1 : s'.pl k = s.pl k) (h2 : s'.du k = s.du k) : askedB s' k = askedB s k := by simp [askedB, h1, h2]
theorem hand_congr {s s' : QS} {k : ByteArray} (h1 : s'.pl k = s.pl k) : handB s' k = handB s k := by simp [handB, h1]

/-- add: what comes of it. -/
theorem add_pl {s : QS} (hp : ∀ k v, s.pl k = some v → (v = 1 ∨ v = 2 ∨ v = 3) ∧ k ∈ UU) (k : ByteArray) :
    ((s.add k).pl k = some 1 ∨ (s.add k).pl k = some 3) ∧ handB (s.add k) k = handB s k ∧ ∀ x, x ≠ k → (s.add k).pl x = s.pl x := by
  unfold QS.add
  split
  · rename_i h0
    have := getD_zero hp h0
    exact ⟨Or.inl (upd_same _ _ _), by simp [handB, QS.wait, upd_same, this], fun x hx => upd_other _ hx _⟩
  · rename_i h0
    split
    · rename_i h2
      have := getD_some (by omega) h2
      exact ⟨Or.inr (upd_same _ _ _), by simp [handB, upd_same, this], fun x hx => upd_other _ hx _⟩
    · rename_i h2
      refine ⟨?_, rfl, fun _ _ => rfl⟩
      cases e : s.pl k with
      | none => rw [e] at h0; simp at h0
      | some v =>
        rw [e] at h0 h2
        simp at h0 h2
        have := (hp k v e).1
        have hv : v = 1 ∨ v = 3 := by omega
        rcases hv with rfl | rfl
        · exact Or.inl rfl
        · exact Or.inr rfl
theorem asked_of_pl {s : QS} {k : ByteArray} (h : s.pl k = some 1 ∨ s.pl k = some 3) : askedB s k = true := by
  rcases h with h | h <;> simp [askedB, h]

section
variable {T : Int} {s : QS} {k : ByteArray}
theorem DrI.add (h : DrI T s) (hk : k ∈ KS) : DrI T (s.add k) ∧ askedB (s.add k) k = true ∧ (∀ x, x ≠ k → askedB (s.add k) x = askedB s x) ∧ ∀ x, handB (s.add k) x = handB s x := by
  obtain ⟨h1, h2, h3⟩ := add_pl h.ok.pls k
  have hd := (add_du s k).1
  refine ⟨⟨h.ok.add (KS_U hk), fun x hx => ?_, fun x t hx => h.duK x t (by rw [← hd]; exact hx)⟩, asked_of_pl h1, fun x hx => asked_congr (h3 x hx) (by rw [hd]), fun x => ?_⟩
  · by_cases e : x = k
    · rw [e]; exact hk
    · exact h.plK x (by rw [← h3 x e]; exact hx)
  · by_cases e : x = k
    · rw [e]; exact h2
    · exact hand_congr (h3 x e)
theorem dueIn_pl (s : QS) (k : ByteArray) (t : Int) : (s.dueIn k t).pl = s.pl ∧ (s.dueIn k t).ck = s.ck ∧ ((s.dueIn k t).du k).isSome = true ∧ (∀ x, x ≠ k → (s.dueIn k t).du x = s.du x) ∧ ∀ u, (s.dueIn k t).du k = some u → u = s.ck + t ∨ s.du k = some u := by
  unfold QS.dueIn
  split
  · rename_i hd
    exact ⟨rfl, rfl, by simp [upd_same], fun x hx => upd_other _ hx _, fun u hu => Or.inl (by simp [upd_same] at hu; omega)⟩
  · rename_i was hd
    split
    · exact ⟨rfl, rfl, by simp [upd_same], fun x hx => upd_other _ hx _, fun u hu => Or.inl (by simp [upd_same] at hu; omega)⟩
    · exact ⟨rfl, rfl, by rw [hd]; rfl, fun _ _ => rfl, fun u hu => Or.inr hu⟩
theorem DrI.dueIn (h : DrI T s) (hk : k ∈ KS) {t : Int} (t0 : 0 < t) (ht : s.ck + t ≤ T) : DrI T (s.dueIn k t) ∧ askedB (s.dueIn k t) k = true ∧ (∀ x, x ≠ k → askedB (s.dueIn k t) x = askedB s x) ∧ ∀ x, handB (s.dueIn k t) x = handB s x := by
  obtain ⟨h1, h2, h3, h4, h5⟩ := dueIn_pl s k t
  refine ⟨⟨h.ok.dueIn (KS_U hk) t0, fun x hx => h.plK x (by rw [← h1]; exact hx), fun x u hx => ?_⟩, by simp [askedB, h3], fun x hx => asked_congr (by rw [h1]) (h4 x hx), fun x => hand_congr (by rw [h1])⟩
  by_cases e : x = k
  · subst e
    rcases h5 u hx with h6 | h6
    · exact ⟨hk, by omega⟩
    · exact h.duK x u h6
  · rw [h4 x e] at hx
    exact h.duK x u hx
theorem failed_pl (s : QS) (k : ByteArray) : (s.failed k).pl = s.pl ∧ (s.failed k).du = s.du ∧ (s.failed k).ck = s.ck := by
  unfold QS.failed
  split <;> exact ⟨rfl, rfl, rfl⟩
theorem back_bd (n : Int) : 1 ≤ QS.back n ∧ QS.back n ≤ 8 := by
  unfold QS.back
  split
  · omega
  · split
    · omega
    · split <;> omega
theorem DrI.limited (h : DrI T s) (hk : k ∈ KS) (ht : s.ck + 8 ≤ T) : DrI T (s.limited k) ∧ askedB (s.limited k) k = true ∧ (∀ x, x ≠ k → askedB (s.limited k) x = askedB s x) ∧ ∀ x, handB (s.limited k) x = handB s x := by
  have hb := back_bd ((s.fa k).getD 0)
  obtain ⟨h1, h2, h3, h4⟩ := h.dueIn hk (t := QS.back ((s.fa k).getD 0)) (by omega) (by omega)
  unfold QS.limited
  obtain ⟨e1, e2, e3⟩ := failed_pl (s.dueIn k (QS.back ((s.fa k).getD 0))) k
  refine ⟨⟨h1.ok.failed, fun x hx => h1.plK x (by rw [← e1]; exact hx), fun x t hx => h1.duK x t (by rw [← e2]; exact hx)⟩, ?_, fun x hx => ?_, fun x => ?_⟩
  · exact (asked_congr (s := s.dueIn k (QS.back ((s.fa k).getD 0))) (by rw [e1]) (by rw [e2])).trans h2
  · exact (asked_congr (s := s.dueIn k (QS.back ((s.fa k).getD 0))) (by rw [e1]) (by rw [e2])).trans (h3 x hx)
  · exact (hand_congr (s := s.dueIn k (QS.back ((s.fa k).getD 0))) (by rw [e1])).trans (h4 x)
theorem DrI.mono {T' : Int} (h : DrI T s) (ht : T ≤ T') : DrI T' s := ⟨h.ok, h.plK, fun k t hk => ⟨(h.duK k t hk).1, by have := (h.duK k t hk).2; omega⟩⟩
theorem DrI.done (h : DrI T s) (hk : k ∈ KS) : DrI T (s.done k) ∧ (∀ x, askedB (s.done k) x = askedB s x) ∧ handB (s.done k) k = false ∧ (∀ x, x ≠ k → handB (s.done k) x = handB s x) ∧ (s.done k).ck = s.ck := by
  have hok := h.ok.done (KS_U hk)
  unfold QS.done at *
  split at hok
  · rename_i h2
    have e := getD_some (by omega) h2
    rw [if_pos h2] at *
    refine ⟨⟨hok, fun x hx => ?_, h.duK⟩, fun x => ?_, by simp [handB, upd_same], fun x hx => hand_congr (upd_other _ hx _), rfl⟩
    · by_cases e : x = k
      · rw [e]; exact hk
      · exact h.plK x (by simpa [upd_other _ e] using hx)
    · by_cases ex : x = k
      · subst ex; simp [askedB, upd_same, e]
      · exact asked_congr (upd_other _ ex _) rfl
  · rename_i h2
    split at hok
    · rename_i h3
      have e := getD_some (by omega) h3
      rw [if_neg h2, if_pos h3] at *
      refine ⟨⟨hok, fun x hx => ?_, h.duK⟩, fun x => ?_, by simp [handB, QS.wait, upd_same], fun x hx => hand_congr (upd_other _ hx _), rfl⟩
      · by_cases e : x = k
        · rw [e]; exact hk
        · exact h.plK x (by simpa [QS.wait, upd_other _ e] using hx)
      · by_cases ex : x = k
        · subst ex; simp [askedB, QS.wait, upd_same, e]
        · exact asked_congr (upd_other _ ex _) rfl
    · rename_i h3
      rw [if_neg h2, if_neg h3] at *
      refine ⟨h, fun _ => rfl, ?_, fun _ _ => rfl, rfl⟩
      cases hp : s.pl k with
      | none => simp [handB, hp]
      | some v =>
        rw [hp] at h2 h3
        simp at h2 h3
        simp [handB, hp, h2, h3]
theorem DrI.take {r : List ByteArray} (h : DrI T s) (hr : s.row = k :: r) : DrI T (s.take k r) ∧ k ∈ KS ∧ askedB s k = true ∧ handB s k = false ∧ askedB (s.take k r) k = (s.du k).isSome ∧ (∀ x, x ≠ k → askedB (s.take k r) x = askedB s x) ∧ handB (s.take k r) k = true ∧ ∀ x, x ≠ k → handB (s.take k r) x = handB s x := by
  have h1 : s.pl k = some 1 := (h.ok.mem k).1 (by rw [hr]; simp)
  have hk : k ∈ KS := h.plK k (by rw [h1]; simp)
  refine ⟨⟨h.ok.take hr, fun x hx => ?_, h.duK⟩, hk, by simp [askedB, h1], by simp [handB, h1], by simp [askedB, QS.take, upd_same], fun x hx => asked_congr (upd_other _ hx _) rfl, by simp [handB, QS.take, upd_same], fun x hx => hand_congr (upd_other _ hx _)⟩
  by_cases e : x = k
  · rw [e]; exact hk
  · exact h.plK x (by simpa [QS.take, upd_other _ e] using hx)

/-- Within a tick: what is asked for and what is in hand stay. -/
theorem fold_one : ∀ (ks : List ByteArray) (s : QS), QMid UU s ks → (∀ x ∈ ks, x ∈ KS ∧ (s.du x).isSome = true) → ks.Pairwise (fun a b => a ≠ b) → (∀ x, s.pl x ≠ none → x ∈ KS) →
    (∀ x, askedB (ks.foldl QS.one s) x = askedB s x) ∧ (∀ x, handB (ks.foldl QS.one s) x = handB s x) ∧ (∀ x, (ks.foldl QS.one s).pl x ≠ none → x ∈ KS) ∧ (∀ x t, (ks.foldl QS.one s).du x = some t → s.du x = some t) ∧ (ks.foldl QS.one s).ck = s.ck
  | [], s, _, _, _, hp => ⟨fun _ => rfl, fun _ => rfl, hp, fun _ _ h => h, rfl⟩
  | k :: ks, s, hm, hk, hnd, hp => by
    obtain ⟨hn1, hn2⟩ := List.pairwise_cons.1 hnd
    obtain ⟨hkK, hkd⟩ := hk k (by simp)
    have hm' := hm.one (KS_U hkK)
    obtain ⟨a1, a2, a3⟩ := add_pl (s := { s with du := upd s.du k none }) hm.pls k
    have hpl : ∀ x, (s.one k).pl x ≠ none → x ∈ KS := by
      intro x hx
      by_cases e : x = k
      · rw [e]; exact hkK
      · exact hp x (by rw [show s.pl x = (s.one k).pl x from (a3 x e).symm]; exact hx)
    have hdu := one_du s k
    obtain ⟨i1, i2, i3, i4, i5⟩ := fold_one ks (s.one k) hm' (fun x hx => ⟨(hk x (by simp [hx])).1, by
      rw [hdu, upd_other _ (fun e => hn1 x hx e.symm)]
      exact (hk x (by simp [hx])).2⟩) hn2 hpl
    refine ⟨fun x => (i1 x).trans ?_, fun x => (i2 x).trans ?_, i3, fun x t hx => ?_, i5.trans (one_ck s k)⟩
    · by_cases e : x = k
      · subst e
        rw [show askedB s x = true by simp [askedB, hkd]]
        exact asked_of_pl a1
      · exact asked_congr (a3 x e) (by rw [hdu, upd_other _ e])
    · by_cases e : x = k
      · subst e; exact a2
      · exact hand_congr (a3 x e)
    · have := i4 x t hx
      rw [hdu] at this
      by_cases e : x = k
      · subst e; rw [upd_same] at this; cases this
      · rwa [upd_other _ e] at this
theorem DrI.ticked (h : DrI T s) {ks : List ByteArray} (hn : Nexts s ks) : DrI T (s.ticked ks) ∧ (∀ x, askedB (s.ticked ks) x = askedB s x) ∧ (∀ x, handB (s.ticked ks) x = handB s x) ∧ (s.ticked ks).ck = s.ck + 1 := by
  have hm := QMid.start h.ok hn
  have hU : ∀ x ∈ ks, x ∈ KS ∧ (s.onward.du x).isSome = true := fun x hx => by
    have := (hn.mem x).1 hx
    exact ⟨(h.duK x _ this).1, by show (s.du x).isSome = true; rw [this]; rfl⟩
  obtain ⟨h1, h2, h3, h4, h5⟩ := fold_one ks s.onward hm hU hn.nd h.plK
  have hfin := hm.fold (fun x hx => KS_U (hU x hx).1) ks.length (Nat.le_refl _)
  rw [List.take_length, List.drop_length] at hfin
  exact ⟨⟨hfin.fin, h3, fun x t hx => h.duK x t (h4 x t hx)⟩, h1, h2, h5⟩
end

theorem map_upd {α β : Type} (l : List α) (f f' : α → β) (j : Nat) (k : α) (b : β) (hj : l[j]? = some k) (hnd : l.Pairwise fun a b => a ≠ b) (hk : f' k = b) (ho : ∀ x, x ≠ k → f' x = f x) : (l.map f).toArray.setIfInBounds j b = (l.map f').toArray := by
  rw [List.setIfInBounds_toArray]
  congr 1
  apply List.ext_getElem?
  intro i
  by_cases e : j = i
  · subst e
    have hl : j < l.length := (List.getElem?_eq_some_iff.1 hj).1
    rw [List.getElem?_set_self (by simpa using hl), List.getElem?_map, hj]
    simp [hk]
  · rw [List.getElem?_set_ne e, List.getElem?_map, List.getElem?_map]
    cases hi : l[i]? with
    | none => rfl
    | some x =>
      have hx : x ≠ k := by
        intro ex
        subst ex
        obtain ⟨h1, h2⟩ := List.getElem?_eq_some_iff.1 hj
        obtain ⟨h3, h4⟩ := List.getElem?_eq_some_iff.1 hi
        rw [List.pairwise_iff_getElem] at hnd
        rcases Nat.lt_or_gt_of_ne e with h | h
        · exact hnd j i h1 h3 h (h2.trans h4.symm)
        · exact hnd i j h3 h1 h (h4.trans h2.symm)
      simp [ho x hx]

end Go.Proofs.Ytdgfjneapialdaa
