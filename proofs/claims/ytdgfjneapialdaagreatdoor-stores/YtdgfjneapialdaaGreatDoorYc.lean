import Derived.Test.YtdgfjneapialdaaGreatDoorYb
import Derived.Test.YtdgfjneapialdaaGreatDoorSv
namespace Go.Proofs.YtdgfjneapialdaaGreatDoor.S
open Go Go.RowKit Go.Maps

def flatO (l : List Ob) : List Value := l.flatMap fun o => o.arr.toList
theorem flatO_len (l : List Ob) : (flatO l).length = l.length * 9 := flatMap_len _ 9 (fun _ => rfl) l
theorem flatO_snoc (l : List Ob) (x : Ob) : flatO (l ++ [x]) = flatO l ++ x.arr.toList := by simp [flatO]
theorem flatO_get (l : List Ob) (i j : Nat) (hi : i < l.length) (hj : j < 9) : (flatO l)[i * 9 + j]? = (l[i]).arr.toList[j]? := flatMap_get (fun o : Ob => o.arr.toList) 9 (fun _ => rfl) l i j hi hj
theorem flat_is {kk : Int} (l : List (Obk kk)) : flat l = flatO (l.map (·.1)) := by simp [flat, flatO, Obk.enc]

/-- What a slice that owns a row looks like. -/
theorem row_form {w : World} {base : Nat} {e : TypeId} {c : Nat} {v : Value} {n : Nat} {xs : List Value} (h : w.ownsRow base e c v n xs) : ∃ ad cap, v = .slice ad n cap ∧ (0 < n → ∃ g, ad = some ⟨g, 0, none⟩ ∧ base ≤ g ∧ g < w.heap.size) := by
  rcases h.2 with ⟨rfl, rfl⟩ | ⟨g, cap, cur, rfl, hb, hbk, _⟩
  · exact ⟨none, 0, rfl, fun h => absurd h (by omega)⟩
  · exact ⟨_, cap, rfl, fun _ => ⟨g, rfl, hb, (Array.getElem?_eq_some_iff.1 hbk).1⟩⟩

/-- The row stays where nothing below has turned. -/
theorem row_below {w w' : World} {base : Nat} {e : TypeId} {c : Nat} {v : Value} {n : Nat} {xs : List Value} (h : w.ownsRow base e c v n xs) (hb : Below w.heap.size w w') : w'.ownsRow base e c v n xs := by
  refine ⟨h.1, ?_⟩
  rcases h.2 with h0 | ⟨g, cap, cur, rfl, hbs, hbk, r⟩
  · exact Or.inl h0
  · exact Or.inr ⟨g, cap, cur, rfl, hbs, (hb.block g (Array.getElem?_eq_some_iff.1 hbk).1).trans hbk, r⟩
theorem row_kept {sb mb : Nat} {w w' : World} {base : Nat} {e : TypeId} {c : Nat} {v : Value} {n : Nat} {xs : List Value} (h : w.ownsRow base e c v n xs) (hb : Kept sb mb w w') (h1 : sb < base) (h2 : mb < base) : w'.ownsRow base e c v n xs := by
  refine ⟨h.1, ?_⟩
  rcases h.2 with h0 | ⟨g, cap, cur, rfl, hbs, hbk, r⟩
  · exact Or.inl h0
  · exact Or.inr ⟨g, cap, cur, rfl, hbs, (hb.block g (Array.getElem?_eq_some_iff.1 hbk).1 (by omega) (by omega)).trans hbk, r⟩
theorem row_base {w : World} {base base' : Nat} {e : TypeId} {c : Nat} {v : Value} {n : Nat} {xs : List Value} (h : w.ownsRow base e c v n xs) (hb : base' ≤ base) : w.ownsRow base' e c v n xs := by
  refine ⟨h.1, ?_⟩
  rcases h.2 with h0 | ⟨g, cap, cur, rfl, hbs, r⟩
  · exact Or.inl h0
  · exact Or.inr ⟨g, cap, cur, rfl, by omega, r⟩

theorem belowDN {w W : World} (h : Below w.heap.size w W) (n : Nat) : Below w.heap.size w (W.drewN n) := ⟨h.os, h.tape, h.output, h.size, h.block⟩

def unlike (o x : Ob) : Bool := x.kind != o.kind || x.name.toList != o.name.toList
def takenL (l : List Ob) (so : Int) (o : Ob) : List Ob := (l.filter (unlike o)) ++ (if so = 2 then [] else [o])

theorem filter_snoc (o : Ob) (l : List Ob) (k : Nat) (hk : k < l.length) : (l.take (k + 1)).filter (unlike o) = (l.take k).filter (unlike o) ++ (if unlike o l[k] then [l[k]] else []) := by
  rw [List.take_succ_eq_append_getElem hk, List.filter_append]
  simp [List.filter_cons]

end Go.Proofs.YtdgfjneapialdaaGreatDoor.S

namespace Go.Proofs.YtdgfjneapialdaaGreatDoor.S
open Go Go.RowKit Go.Maps

/-- One element of a row of objects, cell by cell. -/
theorem row_cells {w wr : World} {base g cap : Nat} {l : List Ob} {k : Nat} (h : w.ownsRow base 84 9 (.slice (some ⟨g, 0, none⟩) l.length cap) l.length (flatO l)) (hb : Below w.heap.size w wr) (hk : k < l.length) :
    ∀ (t : Nat) (y : Value), t < 9 → ((l[k]).arr.toList)[t]? = some y → wr.cell? ⟨g, k * 9 + t, none⟩ = some y := by
  intro t y ht hy
  have := row_below h hb
  rw [this.cellAt (k * 9 + t) (by omega), flatO_get l k t hk ht, hy]

def eqO (a b : Ob) : Bool := eqB a.kind a.name a.uid a.version a.replicas a.status a.owner a.phase a.gone b.kind b.name b.uid b.version b.replicas b.status b.owner b.phase b.gone
theorem eqO_self (a : Ob) : eqO a a = true := eqB_self _ _ _ _ _ _ _ _ _

end Go.Proofs.YtdgfjneapialdaaGreatDoor.S

namespace Go.Proofs.YtdgfjneapialdaaGreatDoor.S
open Go Go.RowKit Go.Maps

/-- An event, done to a map of objects. -/
def doneTo (D : DataW Unit) (x : Int × Ob) : DataW Unit := if x.1 = 2 then D.del (klit x.2.kind x.2.name) else D.put (klit x.2.kind x.2.name) x.2.dat
theorem doneTo_map {D : DataW Unit} (h : IsMap D) (x : Int × Ob) : IsMap (doneTo D x) := by
  unfold doneTo
  split
  · exact h.del _
  · exact h.put _ _

/-- An event that a store may have left. -/
def EvOk (x : Int × Ob) : Prop := (x.2.kind = 0 ∨ x.2.kind = 1) ∧ x.2.name.size ≤ maxLen

/-- What was written since a version, and that the log has the last sixteen of it. -/
structure Hist (D0 : DataW Unit) (v0 ver : Int) (f : Nat → Int × Ob) (es : List (Int × Ob)) (D : DataW Unit) : Prop where
  len : ver - v0 = (es.length : Int)
  now : D = es.foldl doneTo D0
  ok : ∀ x ∈ es, EvOk x
  ver : ∀ (i : Nat) (h : i < es.length), (es[i]).2.version = v0 + 1 + (i : Int)
  log : ∀ (i : Nat) (h : i < es.length), es.length ≤ i + 16 → f ((v0 + 1 + (i : Int)) % 16).toNat = es[i]

theorem Hist.start (D : DataW Unit) (v : Int) (f : Nat → Int × Ob) : Hist D v v f [] D := ⟨by simp, rfl, fun x h => by simp at h, fun i h => by simp at h, fun i h => by simp at h⟩

theorem Hist.next {D0 : DataW Unit} {v0 ver : Int} {f : Nat → Int × Ob} {es : List (Int × Ob)} {D : DataW Unit} (h : Hist D0 v0 ver f es D) {x : Int × Ob} (hx : EvOk x) (hv : x.2.version = ver + 1) : Hist D0 v0 (ver + 1) (upd f ((ver + 1) % 16).toNat x) (es ++ [x]) (doneTo D x) := by
  have hl := h.len
  refine ⟨by simp; omega, by rw [List.foldl_append, ← h.now]; rfl, ?_, ?_, ?_⟩
  · intro y hy
    rcases List.mem_append.1 hy with hy | hy
    · exact h.ok y hy
    · rw [List.mem_singleton.1 hy]
      exact hx
  · intro i hi
    simp at hi
    by_cases e : i < es.length
    · rw [List.getElem_append_left e]
      exact h.ver i e
    · obtain rfl : i = es.length := by omega
      simp
      omega
  · intro i hi h16
    simp at hi h16
    by_cases e : i < es.length
    · rw [List.getElem_append_left e]
      unfold upd
      rw [if_neg (by omega)]
      exact h.log i e (by omega)
    · obtain rfl : i = es.length := by omega
      simp only [List.getElem_append_right (Nat.le_refl _), Nat.sub_self, List.getElem_cons_zero]
      unfold upd
      rw [if_pos (by rw [show v0 + 1 + (es.length : Int) = ver + 1 by omega])]

theorem Hist.wr {D0 : DataW Unit} {v0 ver cre : Int} {f : Nat → Int × Ob} {es : List (Int × Ob)} {n : Nat} {D : DataW Unit} {ver' cre' : Int} {log' : List Value} {n' : Nat} {D' : DataW Unit} {Pd : Int → ByteArray → Prop} (h : Hist D0 v0 ver f es D) (hw : Wr ver cre (logOf f) n D ver' cre' log' n' D' Pd) :
    ∃ f' es', log' = logOf f' ∧ Hist D0 v0 ver' f' es' D' := by
  rcases hw.step with ⟨rfl, rfl, rfl⟩ | ⟨_, rfl, so, o, _, _, hv, hk, hs, rfl, hD⟩
  · exact ⟨f, es, rfl, h⟩
  · refine ⟨_, es ++ [(so, o)], logPut_logOf f ((ver + 1) % 16).toNat (by omega) (so, o), ?_⟩
    have := h.next (x := (so, o)) ⟨hk, hs⟩ hv
    rcases hD with ⟨e, rfl⟩ | ⟨e, rfl, _⟩
    · simpa [doneTo, e] using this
    · simpa [doneTo, e] using this

/-- A list that holds just the objects of a map. -/
structure KnownIs (l : List Ob) (D : DataW Unit) : Prop where
  snd : ∀ x ∈ l, (x.kind = 0 ∨ x.kind = 1) ∧ x.name.size ≤ maxLen ∧ At D x.kind x.name x
  cmp : ∀ k s o, (k = 0 ∨ k = 1) → s.size ≤ maxLen → At D k s o → o ∈ l ∧ o.kind = k ∧ o.name = s
  nd : l.Pairwise fun a b => ¬ (a.kind = b.kind ∧ a.name = b.name)

theorem unlike_ne {o x : Ob} (h : unlike o x = true) : ¬ (x.kind = o.kind ∧ x.name = o.name) := by
  rintro ⟨a, b⟩
  simp [unlike, a, b] at h
theorem unlike_of {o x : Ob} (h : ¬ (x.kind = o.kind ∧ x.name = o.name)) : unlike o x = true := by
  unfold unlike
  by_cases hk : x.kind = o.kind
  · have hn : x.name.toList ≠ o.name.toList := fun e => h ⟨hk, toList_inj e⟩
    simp [hn]
  · simp [hk]

theorem KnownIs.taken {l : List Ob} {D : DataW Unit} (h : KnownIs l D) (hD : IsMap D) {so : Int} {o : Ob} (hx : EvOk (so, o)) : KnownIs (takenL l so o) (doneTo D (so, o)) := by
  obtain ⟨hk, hs⟩ := hx
  simp only at hk hs
  have b0 : 0 ≤ o.kind := by omega
  have b1 : o.kind ≤ 255 := by omega
  have key : ∀ k s, (k = 0 ∨ k = 1) → s.size ≤ maxLen → ¬ (k = o.kind ∧ s = o.name) → klit k s ≠ klit o.kind o.name := by
    intro k s hk' hs' hne e
    exact hne (klit_inj (by omega) (by omega) hs' b0 b1 hs e)
  have hother : ∀ k s o', klit k s ≠ klit o.kind o.name → (At (doneTo D (so, o)) k s o' ↔ At D k s o') := by
    intro k s o' hne
    unfold doneTo
    split
    · exact at_del_other hne
    · exact at_put_other hne
  refine ⟨?_, ?_, ?_⟩
  · intro x hx
    rcases List.mem_append.1 hx with hx | hx
    · rw [List.mem_filter] at hx
      obtain ⟨a, b, c⟩ := h.snd x hx.1
      exact ⟨a, b, (hother _ _ _ (key _ _ a b (unlike_ne hx.2))).2 c⟩
    · by_cases e : so = 2
      · simp [e] at hx
      · simp [e] at hx
        subst hx
        refine ⟨hk, hs, ?_⟩
        simp only [doneTo, if_neg e]
        exact at_put_same hD _ _ _
  · intro k s o' hk' hs' ha
    by_cases e : k = o.kind ∧ s = o.name
    · obtain ⟨rfl, rfl⟩ := e
      unfold doneTo at ha
      simp only at ha
      by_cases e2 : so = 2
      · rw [if_pos e2] at ha
        exact (at_del_same ha).elim
      · rw [if_neg e2] at ha
        obtain rfl := at_inj (at_put_same hD o.kind o.name o) ha
        exact ⟨by simp [takenL, e2], rfl, rfl⟩
    · obtain ⟨a, b, c⟩ := h.cmp k s o' hk' hs' ((hother _ _ _ (key _ _ hk' hs' e)).1 ha)
      refine ⟨List.mem_append.2 (Or.inl (List.mem_filter.2 ⟨a, unlike_of ?_⟩)), b, c⟩
      rw [b, c]
      exact e
  · unfold takenL
    rw [List.pairwise_append]
    refine ⟨h.nd.filter _, ?_, ?_⟩
    · split <;> simp
    · intro a ha b hb
      split at hb
      · simp at hb
      · rw [List.mem_singleton.1 hb]
        exact unlike_ne (List.mem_filter.1 ha).2

theorem KnownIs.nodup {l : List Ob} {D : DataW Unit} (h : KnownIs l D) : l.Nodup := h.nd.imp fun hn e => hn (by rw [e]; exact ⟨rfl, rfl⟩)
theorem KnownIs.mem_of {l l' : List Ob} {D : DataW Unit} (h : KnownIs l D) (h' : KnownIs l' D) : ∀ x ∈ l', x ∈ l := fun x hx => (h.cmp _ _ _ (h'.snd x hx).1 (h'.snd x hx).2.1 (h'.snd x hx).2.2).1
theorem KnownIs.len_eq {l l' : List Ob} {D : DataW Unit} (h : KnownIs l D) (h' : KnownIs l' D) : l.length = l'.length :=
  ((List.perm_ext_iff_of_nodup h.nodup h'.nodup).2 fun x => ⟨h'.mem_of h x, h.mem_of h' x⟩).length_eq

theorem known_of_coll {D : DataW Unit} {l0 : List (Obk 0)} {l1 : List (Obk 1)} (hG : GoodD D) (h0 : Coll D 0 (fun _ => false) l0) (h1 : Coll D 1 (fun _ => false) l1) : KnownIs (l0.map (·.1) ++ l1.map (·.1)) D := by
  refine ⟨?_, ?_, ?_⟩
  · intro x hx
    rcases List.mem_append.1 hx with hx | hx
    · obtain ⟨y, hy, rfl⟩ := List.mem_map.1 hx
      obtain ⟨a, b, _⟩ := h0.snd y hy
      refine ⟨Or.inl y.2, a, ?_⟩
      rw [y.2]
      exact b
    · obtain ⟨y, hy, rfl⟩ := List.mem_map.1 hx
      obtain ⟨a, b, _⟩ := h1.snd y hy
      refine ⟨Or.inr y.2, a, ?_⟩
      rw [y.2]
      exact b
  · intro k s o hk hs ha
    have hg := hG k s o (by omega) (by omega) hs ha
    refine ⟨?_, hg⟩
    rcases hk with rfl | rfl
    · rcases h0.cmp s o hs ha with e | ⟨x, hx, rfl⟩
      · cases e
      · exact List.mem_append.2 (Or.inl (List.mem_map.2 ⟨x, hx, rfl⟩))
    · rcases h1.cmp s o hs ha with e | ⟨x, hx, rfl⟩
      · cases e
      · exact List.mem_append.2 (Or.inr (List.mem_map.2 ⟨x, hx, rfl⟩))
  · rw [List.pairwise_append]
    refine ⟨?_, ?_, ?_⟩
    · exact List.pairwise_map.2 (h0.nd.imp fun hn e => hn e.2)
    · exact List.pairwise_map.2 (h1.nd.imp fun hn e => hn e.2)
    · intro a ha b hb e
      obtain ⟨y, _, rfl⟩ := List.mem_map.1 ha
      obtain ⟨z, _, rfl⟩ := List.mem_map.1 hb
      have := e.1
      rw [y.2, z.2] at this
      cases this

theorem takenL_len (l : List Ob) (so : Int) (o : Ob) : (takenL l so o).length ≤ l.length + 1 := by
  unfold takenL
  have := List.length_filter_le (unlike o) l
  rw [List.length_append]
  split <;> simp <;> omega

theorem KnownIs.all : ∀ (es : List (Int × Ob)) {l : List Ob} {D : DataW Unit}, KnownIs l D → IsMap D → (∀ x ∈ es, EvOk x) → ∃ l', KnownIs l' (es.foldl doneTo D) ∧ l'.length ≤ l.length + es.length
  | [], l, _, h, _, _ => ⟨l, h, by simp⟩
  | x :: r, l, D, h, hM, hok => by
    obtain ⟨l', h1, h2⟩ := KnownIs.all r (h.taken hM (so := x.1) (o := x.2) (hok x (by simp))) (doneTo_map hM _) (fun y hy => hok y (by simp [hy]))
    refine ⟨l', h1, ?_⟩
    have := takenL_len l x.1 x.2
    simp
    omega

theorem Hist.bound {D0 : DataW Unit} {v0 ver : Int} {f : Nat → Int × Ob} {es : List (Int × Ob)} {D : DataW Unit} {l d : List Ob} (h : Hist D0 v0 ver f es D) (hK : KnownIs l D0) (hM : IsMap D0) (hl : (l.length : Int) ≤ v0) (hd : KnownIs d D) : (d.length : Int) ≤ ver := by
  obtain ⟨l', h1, h2⟩ := hK.all es hM h.ok
  rw [← h.now] at h1
  have := hd.len_eq h1
  have := h.len
  omega

theorem Hist.row {D0 : DataW Unit} {v0 ver : Int} {f : Nat → Int × Ob} {es : List (Int × Ob)} {D : DataW Unit} (h : Hist D0 v0 ver f es D) (h16 : es.length ≤ 16) : ((List.range es.length).flatMap fun i : Nat => evP (f ((v0 + 1 + (i : Int)) % 16).toNat)) = es.flatMap evP := by
  have e : es = (List.range es.length).map (fun i : Nat => f ((v0 + 1 + (i : Int)) % 16).toNat) := by
    apply List.ext_getElem
    · simp
    · intro i h1 h2
      simp only [List.getElem_map, List.getElem_range]
      exact (h.log i h1 (by omega)).symm
  conv => rhs; rw [e, List.flatMap_map]

theorem Hist.take {D0 : DataW Unit} {v0 ver : Int} {f : Nat → Int × Ob} {es : List (Int × Ob)} {D : DataW Unit} (_h : Hist D0 v0 ver f es D) (hM : IsMap D0) (j : Nat) : IsMap ((es.take j).foldl doneTo D0) := by
  generalize es.take j = q
  clear _h
  induction q generalizing D0 with
  | nil => exact hM
  | cons x r ih => exact ih (doneTo_map hM x)

theorem foldl_take (es : List (Int × Ob)) (D0 : DataW Unit) (j : Nat) (hj : j < es.length) : (es.take (j + 1)).foldl doneTo D0 = doneTo ((es.take j).foldl doneTo D0) es[j] := by
  rw [List.take_succ_eq_append_getElem hj, List.foldl_append]
  rfl

end Go.Proofs.YtdgfjneapialdaaGreatDoor.S
