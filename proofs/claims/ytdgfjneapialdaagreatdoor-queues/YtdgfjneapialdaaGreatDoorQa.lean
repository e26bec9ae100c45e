import Derived.WalkKit
import Derived.Maps.RangeWalk
import Derived.Maps.OwnSet
namespace Go.Proofs.YtdgfjneapialdaaGreatDoor
open Go Go.RowKit Go.Maps

def slit (s : ByteArray) : Lit := .string s.data.toList
theorem slit_inj {a b : ByteArray} (h : slit a = slit b) : a = b := by
  obtain ⟨⟨a⟩⟩ := a
  obtain ⟨⟨b⟩⟩ := b
  simp [slit] at h
  simp [h]
theorem slit_ne {a b : ByteArray} (h : a ≠ b) : slit a ≠ slit b := fun e => h (slit_inj e)
theorem slit_key (s : ByteArray) : WideAt.IsKeyLit (slit s) := trivial

/-- No list without doubles is longer than one that has all of its members. -/
theorem len_le_of_sub {α : Type} : ∀ (l U : List α), l.Pairwise (fun a b => a ≠ b) → (∀ x ∈ l, x ∈ U) → l.length ≤ U.length
  | [], U, _, _ => Nat.zero_le _
  | x :: l, U, hp, hs => by
    classical
    obtain ⟨h1, h2⟩ := List.pairwise_cons.1 hp
    have hx : x ∈ U := hs x (by simp)
    have ih := len_le_of_sub l (U.erase x) h2 (fun y hy => by
      have hne : y ≠ x := fun e => h1 y hy e.symm
      exact (List.mem_erase_of_ne hne).2 (hs y (by simp [hy])))
    rw [List.length_erase_of_mem hx] at ih
    have : 0 < U.length := List.length_pos_of_mem hx
    simp only [List.length_cons]
    omega

/-- What a function of keys is behind a write. -/
def upd (f : ByteArray → Option Int) (s : ByteArray) (v : Option Int) : ByteArray → Option Int := fun x => if x = s then v else f x
theorem upd_same (f : ByteArray → Option Int) (s : ByteArray) (v : Option Int) : upd f s v s = v := by simp [upd]
theorem upd_other (f : ByteArray → Option Int) {s x : ByteArray} (h : x ≠ s) (v : Option Int) : upd f s v x = f x := by simp [upd, h]

/-- Block mb is a map of strings to integers that reads as f; its keys are among U. -/
def MapOf (P : Program) (w : World) (k e : TypeId) (q : IntKind) (mb : Nat) (U : List ByteArray) (f : ByteArray → Option Int) : Prop :=
  ∃ D : DataW Unit, w.ownsMap P k (plainElem P e) mb U.length D ∧ (∀ kl, has D kl = true → ∃ s ∈ U, kl = slit s) ∧
    ∀ s, match f s with | none => has D (slit s) = false | some v => ∀ z, D.atKey (slit s) z = .lit (.int q v)

section
variable {P : Program} {w w' : World} {k e t : TypeId} {q : IntKind} {mb : Nat} {U : List ByteArray} {f : ByteArray → Option Int}

theorem MapOf.lt (h : MapOf P w k e q mb U f) : mb < w.heap.size := by
  obtain ⟨D, ho, _⟩ := h
  exact ho.lt
theorem MapOf.isMap (h : MapOf P w k e q mb U f) : ∃ es c, w.heap[mb]? = some (.map es c) := by
  obtain ⟨D, ⟨es, c, hb, _⟩, _⟩ := h
  exact ⟨es, c, hb⟩
theorem MapOf.keep (h : MapOf P w k e q mb U f) (hb : w'.heap[mb]? = w.heap[mb]?) : MapOf P w' k e q mb U f := by
  obtain ⟨D, ⟨es, c, h1, h2⟩, hr⟩ := h
  exact ⟨D, ⟨es, c, hb.trans h1, h2⟩, hr⟩
theorem MapOf.mem (h : MapOf P w k e q mb U f) {s : ByteArray} {v : Int} (hf : f s = some v) : s ∈ U := by
  obtain ⟨D, _, hk, hr⟩ := h
  have := hr s
  rw [hf] at this
  obtain ⟨s', hs', e⟩ := hk _ (has_true_of_atKey this)
  rw [slit_inj e]
  exact hs'

theorem MapOf.look (h : MapOf P w k e q mb U f) (hk : P.underlying k = some .string) (ht : P.underlying t = some (.map k e)) (he : P.underlying e = some (.int q)) (hz : ∀ w, (zeroValue e).run P w = .ok (.int q 0) w) {s : ByteArray} (hs : s.size ≤ maxLen) :
    (Instr.lookup t (.map (some mb)) (.string s) false).run P w = .ok (.int q ((f s).getD 0)) w := by
  obtain ⟨D, ho, _, hr⟩ := h
  obtain ⟨c, hrun, hat, _⟩ := ho.lookup_int (string_keyed hk) ht he (hz w) (WideMaps.keyOf_string_mk hk hs)
  have h1 := hr s
  rw [hrun]
  cases hf : f s with
  | none =>
    rw [hf] at h1
    have h2 : has D (slit s) = false := h1
    have h3 := (atKey_of_not_has h2 (.lit (.int q 0))).symm.trans hat
    simp at h3
    simp [← h3]
  | some v =>
    rw [hf] at h1
    have h3 := (h1 (.lit (.int q 0))).symm.trans hat
    simp at h3
    simp [h3]

theorem MapOf.look_ok (h : MapOf P w k e q mb U f) (hk : P.underlying k = some .string) (ht : P.underlying t = some (.map k e)) (he : P.underlying e = some (.int q)) (hz : ∀ w, (zeroValue e).run P w = .ok (.int q 0) w) {s : ByteArray} (hs : s.size ≤ maxLen) :
    (Instr.lookup t (.map (some mb)) (.string s) true).run P w = .ok (.tuple #[.int q ((f s).getD 0), .bool (f s).isSome]) w := by
  obtain ⟨D, ho, _, hr⟩ := h
  have hw0 : (Lit.int q 0).wf = true := by cases q <;> decide
  obtain ⟨v, ps, hrun, hv⟩ := ho.look_ok (string_keyed hk) ht (hz w) (plainElem_int he hw0) (WideMaps.keyOf_string_mk hk hs)
  obtain ⟨c, rfl, hc, _⟩ := plainElem_int_inv he hv
  have h1 := hr s
  rw [hrun]
  have hat : D.atKey (slit s) (.lit (.int q 0)) = .lit (.int q c) := congrArg Prod.fst hc
  change Result.ok (Value.tuple #[.int q c, .bool (Maps.has D (slit s))]) w = _
  cases hf : f s with
  | none =>
    rw [hf] at h1
    have h2 : has D (slit s) = false := h1
    have h3 := (atKey_of_not_has h2 (.lit (.int q 0))).symm.trans hat
    simp at h3
    simp [h2, ← h3]
  | some v =>
    rw [hf] at h1
    have h3 := (h1 (.lit (.int q 0))).symm.trans hat
    simp at h3
    simp [has_true_of_atKey h1, h3]

theorem MapOf.wf (h : MapOf P w k e q mb U f) (hk : P.underlying k = some .string) (ht : P.underlying t = some (.map k e)) (he : P.underlying e = some (.int q)) (hz : ∀ w, (zeroValue e).run P w = .ok (.int q 0) w) {s : ByteArray} (hs : s.size ≤ maxLen) {v : Int} (hf : f s = some v) : (Lit.int q v).wf = true := by
  obtain ⟨D, ho, _, hr⟩ := h
  obtain ⟨c, hrun, hat, hw⟩ := ho.lookup_int (t := t) (string_keyed hk) ht he (hz w) (WideMaps.keyOf_string_mk hk hs)
  have h1 := hr s
  rw [hf] at h1
  have h3 := (h1 (.lit (.int q 0))).symm.trans hat
  simp at h3
  rw [h3]
  exact hw

theorem MapOf.tight {D : DataW Unit} {n : Nat} (ho : w.ownsMap P k (plainElem P e) mb n D) (hk : P.underlying k = some .string) (hU : ∀ kl, has D kl = true → ∃ s ∈ U, kl = slit s) : w.ownsMap P k (plainElem P e) mb U.length D := by
  obtain ⟨l, hD, hp, hkey⟩ := ho.entries (string_keyed hk)
  have hle : Maps.size D ≤ U.length := by
    rw [hD, size_eq]
    have h1 : (l.map (fun p => p.1)).Pairwise (fun a b => a ≠ b) := List.pairwise_map.2 hp
    have h2 := len_le_of_sub (l.map (fun p => p.1)) (U.map slit) h1 (fun x hx => by
      obtain ⟨p, hp', rfl⟩ := List.mem_map.1 hx
      have : has D p.1 = true := by
        rw [hD, has_eq]
        exact List.any_eq_true.2 ⟨p, hp', WideAt.sameKey_self (hkey p hp')⟩
      obtain ⟨s, hs, e⟩ := hU _ this
      exact List.mem_map.2 ⟨s, hs, e.symm⟩)
    simpa using h2
  obtain ⟨es, c, hb, hF, hs, hD2⟩ := ho
  refine ⟨es, c, hb, hF, ?_, hD2⟩
  rw [hD2] at hle
  simpa [Maps.size, length_sorted] using hle

theorem MapOf.put (h : MapOf P w k e q mb U f) (hk : P.underlying k = some .string) (ht : P.underlying t = some (.map k e)) (he : P.underlying e = some (.int q)) (hU : U.length < maxLen) {s : ByteArray} (hs : s.size ≤ maxLen) (hsU : s ∈ U) {v : Int} (hv : (Lit.int q v).wf = true) :
    ∃ w', (Instr.mapUpdate t (.map (some mb)) (.string s) (.int q v)).run P w = .ok () w' ∧ MapOf P w' k e q mb U (upd f s (some v)) ∧ w.mapTurned w' mb := by
  obtain ⟨D, ho, hkeys, hr⟩ := h
  obtain ⟨w', hrun, ho', ht'⟩ := ho.store (string_keyed hk) ht hU (WideMaps.keyOf_string_mk hk hs) (plainElem_int he hv)
  have hm : IsMap D := ho.isMap
  have hkeys' : ∀ kl, Maps.has (D.put (slit s) (.lit (.int q v))) kl = true → ∃ s ∈ U, kl = slit s := by
    intro kl hkl
    by_cases e : kl = slit s
    · exact ⟨s, hsU, e⟩
    · rw [has_put_other e] at hkl
      exact hkeys kl hkl
  refine ⟨w', hrun, ⟨_, MapOf.tight ho' hk hkeys', hkeys', ?_⟩, ht'⟩
  intro x
  by_cases e : x = s
  · subst e
    rw [upd_same]
    exact fun z => atKey_put_same hm (slit_key x) _ z
  · rw [upd_other f e]
    have h1 := hr x
    cases hf : f x with
    | none =>
      rw [hf] at h1
      exact (has_put_other (slit_ne e) _).trans h1
    | some u =>
      rw [hf] at h1
      exact fun z => (atKey_put_other (slit_ne e) _ z).trans (h1 z)

theorem MapOf.del (h : MapOf P w k e q mb U f) (hk : P.underlying k = some .string) (ht : P.underlying t = some (.map k e)) {s : ByteArray} (hs : s.size ≤ maxLen) (ty : TypeId) :
    ∃ w', (Builtin.delete_ #[t, k] ty #[.map (some mb), .string s]).run P w = .ok (.tuple #[]) w' ∧ MapOf P w' k e q mb U (upd f s none) ∧ w.mapTurned w' mb := by
  obtain ⟨D, ho, hkeys, hr⟩ := h
  obtain ⟨w', hrun, ho', ht'⟩ := ho.drop (string_keyed hk) ht (WideMaps.keyOf_string_mk hk hs) ty
  refine ⟨w', hrun, ⟨_, ho', ?_, ?_⟩, ht'⟩
  · intro kl hkl
    by_cases e : kl = slit s
    · rw [e] at hkl
      change Maps.has (D.del (slit s)) (slit s) = true at hkl
      rw [has_del_same] at hkl
      cases hkl
    · have : Maps.has (D.del (slit s)) kl = true := hkl
      rw [has_del_other e] at this
      exact hkeys kl this
  · intro x
    by_cases e : x = s
    · subst e
      rw [upd_same]
      exact has_del_same
    · rw [upd_other f e]
      have h1 := hr x
      cases hf : f x with
      | none =>
        rw [hf] at h1
        exact (has_del_other (slit_ne e)).trans h1
      | some u =>
        rw [hf] at h1
        exact fun z => (atKey_del_other (slit_ne e) z).trans (h1 z)

theorem MapOf.made (P : Program) (w : World) (k e : TypeId) (q : IntKind) (U : List ByteArray) : MapOf P (w.alloc (.map #[] 0)) k e q w.heap.size U (fun _ => none) :=
  ⟨.map [], (World.ownsMap_made w P k _).mono (Nat.zero_le _), fun kl h => by simp [Maps.has] at h, fun s => rfl⟩
end

end Go.Proofs.YtdgfjneapialdaaGreatDoor
