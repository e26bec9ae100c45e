import Derived.Test.YtdgfjneapialdaaGreatDoorQj
import Derived.StringKeys
import Derived.Sort.OwnSorted
import Derived.Sort.EncStr
namespace Go.Proofs.YtdgfjneapialdaaGreatDoor
open Go Go.RowKit Go.Maps Go.Sort

def bk (b : List UInt8) : ByteArray := ⟨b.toArray⟩
theorem bk_toList (b : List UInt8) : (bk b).data.toList = b := rfl
theorem slit_bk (b : List UInt8) : slit (bk b) = .string b := rfl
theorem bk_inj {a b : List UInt8} (h : bk a = bk b) : a = b := by
  have := congrArg (fun x : ByteArray => x.data.toList) h
  exact this
theorem bk_data (s : ByteArray) : bk s.data.toList = s := by obtain ⟨⟨l⟩⟩ := s; rfl
theorem enc_bk (b : List UInt8) : encStr b = Value.string (bk b) := rfl

/-- What a walk over the map of what is due has collected of one tick. -/
structure CollT (f : ByteArray → Option Int) (c : Int) (left : Lit → Bool) (l : List (List UInt8)) : Prop where
  snd : ∀ b ∈ l, f (bk b) = some c ∧ left (.string b) = false
  cmp : ∀ b, f (bk b) = some c → left (.string b) = true ∨ b ∈ l
  nd : l.Pairwise fun a b => a ≠ b

section
variable {f : ByteArray → Option Int} {c : Int} {left : Lit → Bool} {l : List (List UInt8)}
theorem CollT.start (h : ∀ b, f (bk b) = some c → left (.string b) = true) : CollT f c left [] :=
  ⟨fun _ h => by simp at h, fun b hb => Or.inl (h b hb), List.Pairwise.nil⟩
theorem strike_same (b : List UInt8) : (left (.string b) && !(Lit.string b).sameKey (.string b)) = false := by
  rw [WideAt.sameKey_self (show WideAt.IsKeyLit (.string b) from trivial)]; simp
theorem strike_other {a b : List UInt8} (h : a ≠ b) : (left (.string a) && !(Lit.string a).sameKey (.string b)) = left (.string a) := by
  rw [sameKey_ne (fun e => h (by injection e))]; simp
theorem CollT.step (h : CollT f c left l) {b : List UInt8} (hb : f (bk b) = some c) (hl : left (.string b) = true) : CollT f c (fun z => left z && !z.sameKey (.string b)) (l ++ [b]) := by
  refine ⟨?_, ?_, ?_⟩
  · intro x hx
    rcases List.mem_append.1 hx with hx | hx
    · obtain ⟨h1, h2⟩ := h.snd x hx
      exact ⟨h1, by simp [h2]⟩
    · simp at hx
      subst hx
      exact ⟨hb, strike_same x⟩
  · intro x hx
    by_cases e : x = b
    · exact Or.inr (by simp [e])
    · exact (h.cmp x hx).imp (fun h1 => by show (left (.string x) && _) = true; rw [strike_other e]; exact h1) (fun h1 => by simp [h1])
  · rw [List.pairwise_append]
    refine ⟨h.nd, by simp, fun x hx y hy => ?_⟩
    simp at hy
    subst hy
    intro e
    have := (h.snd x hx).2
    rw [e, hl] at this
    cases this
theorem CollT.skip (h : CollT f c left l) {b : List UInt8} (hb : f (bk b) ≠ some c) : CollT f c (fun z => left z && !z.sameKey (.string b)) l := by
  refine ⟨fun x hx => ⟨(h.snd x hx).1, by simp [(h.snd x hx).2]⟩, fun x hx => ?_, h.nd⟩
  have e : x ≠ b := fun e => hb (e ▸ hx)
  exact (h.cmp x hx).imp (fun h1 => by show (left (.string x) && _) = true; rw [strike_other e]; exact h1) id
end

theorem QMid.fold {U : List ByteArray} {s : QS} {ks : List ByteArray} (h : QMid U s ks) (hU : ∀ k ∈ ks, k ∈ U) : ∀ j, j ≤ ks.length → QMid U ((ks.take j).foldl QS.one s) (ks.drop j)
  | 0, _ => by simpa using h
  | j + 1, hj => by
    have ih := QMid.fold h hU j (by omega)
    have hd : ks.drop j = ks[j] :: ks.drop (j + 1) := List.drop_eq_getElem_cons (by omega)
    rw [hd] at ih
    rw [List.take_succ_eq_append_getElem (by omega), List.foldl_append]
    exact ih.one (hU _ (List.getElem_mem _))
theorem QMid.len {U : List ByteArray} {s : QS} {ks : List ByteArray} (h : QMid U s ks) : s.row.length ≤ U.length := len_le_of_sub _ _ h.nd (fun x hx => (h.pls x 1 ((h.mem x).1 hx)).2)

theorem keyOf9_inv {key : Value} {kl : Lit} (h : keyOf Tryz.prog 9 key = some kl) : ∃ s : ByteArray, key = .string s ∧ kl = slit s ∧ s.size ≤ maxLen := by
  obtain ⟨s, h1, h2, h3⟩ := WideMaps.string_of_keyOf und9 h
  exact ⟨s, h1, h2, h3⟩

end Go.Proofs.YtdgfjneapialdaaGreatDoor
