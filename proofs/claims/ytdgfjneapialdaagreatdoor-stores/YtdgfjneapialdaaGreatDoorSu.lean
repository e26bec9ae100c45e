import Derived.Test.YtdgfjneapialdaaGreatDoorSa
namespace Go.Proofs.YtdgfjneapialdaaGreatDoor.S
open Go Go.RowKit Go.Maps

theorem two_of {α : Type} {l : List α} (h : l.length = 2) : ∃ a b, l = [a, b] := by
  rcases l with _ | ⟨a, _ | ⟨b, _ | ⟨c, r⟩⟩⟩
  · cases h
  · cases h
  · exact ⟨a, b, rfl⟩
  · simp at h
theorem u8_bd {k : Int} (h : (Lit.int .u8 k).wf = true) : 0 ≤ k ∧ k ≤ 255 := by
  simp only [Lit.wf, IntKind.min, IntKind.max, IntKind.signed, IntKind.bits, Bool.and_eq_true] at h
  simp at h
  omega
theorem lit5 {m : Nat} {a : Value} {y : List Lit} (h : Tryz.prog.keyLits (m + 1) 5 [a] = some y) : ∃ k, a = .int .u8 k ∧ y = [.int .u8 k] ∧ 0 ≤ k ∧ k ≤ 255 := by
  rw [Program.keyLits.eq_def] at h
  simp only [Tryz.underlying5] at h
  cases a
  all_goals (try cases h)
  rename_i q n
  simp only at h
  split at h
  · rename_i hq
    obtain ⟨rfl, hw⟩ := hq
    exact ⟨n, rfl, (Option.some.inj h).symm, u8_bd hw⟩
  · cases h
theorem lit9 {m : Nat} {a : Value} {y : List Lit} (h : Tryz.prog.keyLits (m + 1) 9 [a] = some y) : ∃ s, a = .string s ∧ y = [.string s.data.toList] ∧ s.size ≤ maxLen := by
  rw [Program.keyLits.eq_def] at h
  simp only [Tryz.underlying9] at h
  cases a
  all_goals (try cases h)
  rename_i s
  simp only at h
  split at h
  · rename_i hs
    exact ⟨s, rfl, (Option.some.inj h).symm, hs⟩
  · cases h
theorem formed58 {v : Value} (h : v.formed Tryz.prog 167 = true) : ∃ a b, v = .agg #[a, b] := by
  obtain ⟨f0, f1, hu, _⟩ := under58
  cases v <;> simp [Value.formed, hu, cells58] at h
  rename_i cs
  obtain ⟨l⟩ := cs
  obtain ⟨a, b, rfl⟩ := two_of (l := l) h
  exact ⟨a, b, rfl⟩

theorem key58_inv {v : Value} {l : Lit} (h : keyOf Tryz.prog 167 v = some l) : ∃ k s, v = keyV k s ∧ l = klit k s ∧ 0 ≤ k ∧ k ≤ 255 ∧ s.size ≤ maxLen := by
  obtain ⟨f0, f1, hu, t0, t1, o0, o1, n0, n1⟩ := under58
  obtain ⟨m, hm⟩ := size121
  cases hf : v.formed Tryz.prog 167
  · unfold keyOf at h
    rw [hu] at h
    simp only [hf, Bool.and_false, Bool.false_eq_true, if_false] at h
    cases h
  · obtain ⟨a, b, rfl⟩ := formed58 hf
    unfold keyOf at h
    rw [hu] at h
    simp only [keyType58, hf, Bool.and_self, if_true, hm] at h
    change Option.map _ (Tryz.prog.keyLits (m + 2) 167 [a, b]) = _ at h
    rw [Program.keyLits.eq_def] at h
    simp [hu, cells58, n0, n1, t0, t1, o0, o1, cells5, cells9] at h
    cases hA : Tryz.prog.keyLits (m + 1) 5 [a] with
    | none => rw [hA] at h; cases h
    | some y =>
      cases hB : Tryz.prog.keyLits (m + 1) 9 [b] with
      | none => rw [hA, hB] at h; cases h
      | some z =>
        rw [hA, hB] at h
        obtain ⟨k, rfl, rfl, h0, h1⟩ := lit5 hA
        obtain ⟨s, rfl, rfl, hs⟩ := lit9 hB
        exact ⟨k, s, rfl, (Option.some.inj h).symm, h0, h1, hs⟩

theorem klit_inj {k k' : Int} {s s' : ByteArray} (h0 : 0 ≤ k) (h1 : k ≤ 255) (hs : s.size ≤ maxLen) (h0' : 0 ≤ k') (h1' : k' ≤ 255) (hs' : s'.size ≤ maxLen) (h : klit k s = klit k' s') : k = k' ∧ s = s' := by
  have e := law58.inj (key58 k s h0 h1 hs) (h ▸ key58 k' s' h0' h1' hs')
  simp only [keyV, Value.agg.injEq] at e
  simp at e
  exact e

/-- Every object stands at its own key. -/
def GoodD (D : DataW Unit) : Prop := ∀ k s o, 0 ≤ k → k ≤ 255 → s.size ≤ maxLen → At D k s o → o.kind = k ∧ o.name = s

theorem klit_key (k : Int) (s : ByteArray) : WideAt.IsKeyLit (klit k s) := trivial

/-- What a walk over the map has collected of one kind. -/
structure Coll (D : DataW Unit) (kk : Int) (left : Lit → Bool) (l : List { o : Ob // o.kind = kk }) : Prop where
  snd : ∀ x ∈ l, x.1.name.size ≤ maxLen ∧ At D kk x.1.name x.1 ∧ left (klit kk x.1.name) = false
  cmp : ∀ s o, s.size ≤ maxLen → At D kk s o → left (klit kk s) = true ∨ ∃ x ∈ l, x.1 = o
  nd : l.Pairwise fun a b => a.1.name ≠ b.1.name

theorem Coll.start (D : DataW Unit) (kk : Int) : Coll D kk (has D) [] :=
  ⟨fun _ h => by simp at h, fun _ _ _ h => Or.inl h.1, List.Pairwise.nil⟩

section
variable {D : DataW Unit} {kk : Int} {left : Lit → Bool} {l : List { o : Ob // o.kind = kk }}
theorem Coll.step (h : Coll D kk left l) (hk0 : 0 ≤ kk) (hk1 : kk ≤ 255) {s : ByteArray} (hs : s.size ≤ maxLen) {o : Ob} (hG : GoodD D) (ha : At D kk s o) (hl : left (klit kk s) = true) (hko : o.kind = kk) :
    Coll D kk (fun z => left z && !z.sameKey (klit kk s)) (l ++ [⟨o, hko⟩]) := by
  have hn := (hG kk s o hk0 hk1 hs ha).2
  refine ⟨?_, ?_, ?_⟩
  · intro x hx
    rcases List.mem_append.1 hx with hx | hx
    · obtain ⟨h1, h2, h3⟩ := h.snd x hx
      exact ⟨h1, h2, by simp [h3]⟩
    · simp at hx
      subst hx
      refine ⟨by rw [hn]; exact hs, by rw [hn]; exact ha, ?_⟩
      simp only [hn]
      rw [WideAt.sameKey_self (klit_key kk s)]
      simp
  · intro s' o' hs' ha'
    by_cases e : klit kk s' = klit kk s
    · obtain ⟨_, rfl⟩ := klit_inj hk0 hk1 hs' hk0 hk1 hs e
      exact Or.inr ⟨⟨o, hko⟩, by simp, at_inj ha ha'⟩
    · rcases h.cmp s' o' hs' ha' with h1 | ⟨x, hx, rfl⟩
      · exact Or.inl (by simp only [h1, sameKey_ne e]; rfl)
      · exact Or.inr ⟨x, by simp [hx], rfl⟩
  · rw [List.pairwise_append]
    refine ⟨h.nd, by simp, ?_⟩
    intro x hx y hy
    simp at hy
    subst hy
    intro e
    have := (h.snd x hx).2.2
    rw [e, hn, hl] at this
    cases this
theorem Coll.skip (h : Coll D kk left l) (hk0 : 0 ≤ kk) (hk1 : kk ≤ 255) {k : Int} {s : ByteArray} (h0 : 0 ≤ k) (h1 : k ≤ 255) (hs : s.size ≤ maxLen) (hne : k ≠ kk) :
    Coll D kk (fun z => left z && !z.sameKey (klit k s)) l := by
  refine ⟨fun x hx => ?_, fun s' o' hs' ha' => ?_, h.nd⟩
  · obtain ⟨h1, h2, h3⟩ := h.snd x hx
    exact ⟨h1, h2, by simp [h3]⟩
  · rcases h.cmp s' o' hs' ha' with h1 | h2
    · refine Or.inl ?_
      have e : klit kk s' ≠ klit k s := fun e => hne (klit_inj hk0 hk1 hs' h0 (by omega) hs e).1.symm
      simp only [h1, sameKey_ne e]
      rfl
    · exact Or.inr h2
end

end Go.Proofs.YtdgfjneapialdaaGreatDoor.S
