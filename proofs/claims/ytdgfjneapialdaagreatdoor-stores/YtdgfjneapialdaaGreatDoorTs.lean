import Derived.Test.YtdgfjneapialdaaGreatDoorTr
namespace Go.Proofs.YtdgfjneapialdaaGreatDoor.S
open Go Go.RowKit Go.Maps

theorem bytes_ne {a b : ByteArray} (h : a ≠ b) : a.toList < b.toList ∨ b.toList < a.toList := by
  by_cases h1 : a.toList < b.toList
  · exact Or.inl h1
  · by_cases h2 : b.toList < a.toList
    · exact Or.inr h2
    · exact absurd (toList_inj (List.le_antisymm (List.not_lt.1 h2) (List.not_lt.1 h1))) h

section
variable {lim ver cre : Int} {f : Nat → Int × Ob} {n : Nat} {D : DataW Unit} {pre : List (List Ob)} {l : List Ob} {es : List (Int × Ob)}
theorem RelS.ob (h : RelS lim ver cre f n D pre l es) {x : Ob} (hx : x ∈ l) : ObOk ver cre x.kind x.name x := by
  obtain ⟨hk, hs, ha⟩ := h.known.snd x hx
  exact h.inv.all x.kind x.name x (by omega) (by omega) hs ha
theorem RelS.apart (h : RelS lim ver cre f n D pre l es) : Apart l := by
  have hmem : ∀ a ∈ l, ∀ b ∈ l, ¬ (a.kind = b.kind ∧ a.name = b.name) → aheadB a b = true ∨ aheadB b a = true := by
    intro a ha b hb hne
    have oa := h.ob ha
    have ob := h.ob hb
    unfold aheadB
    by_cases hk : a.kind = b.kind
    · rw [if_pos hk, if_pos hk.symm]
      by_cases h1 : a.kind = 1
      · rw [if_pos h1, if_pos (hk ▸ h1)]
        have hu : a.uid ≠ b.uid := fun e => hne ⟨hk, by rw [(oa.pod h1).1, (ob.pod (hk ▸ h1)).1, e]⟩
        simp
        omega
      · rw [if_neg h1, if_neg (hk ▸ h1)]
        simp only [decide_eq_true_eq]
        exact bytes_ne (fun e => hne ⟨hk, e⟩)
    · rw [if_neg hk, if_neg (fun e => hk e.symm)]
      simp
      omega
  have := h.known.nd
  unfold Apart
  exact List.Pairwise.imp_of_mem (fun {a b} ha hb hn => hmem a ha b hb hn) this
/-- What both tell of a kind. -/
theorem RelS.list (h : RelS lim ver cre f n D pre l es) {kk : Int} {l' : List (Obk kk)} (hC : Coll D kk (fun _ => false) l') (hs : l'.Pairwise fun a b => ltOf (cfk kk) b a = false) (h0 : 0 ≤ kk) (h1 : kk ≤ 255) : l'.map (·.1) = ofKind kk (ordL l) := by
  have hmem : ∀ x : Ob, x ∈ l'.map (·.1) ↔ x ∈ l ∧ x.kind = kk := by
    intro x
    constructor
    · intro hx
      obtain ⟨y, hy, rfl⟩ := List.mem_map.1 hx
      obtain ⟨a, b, _⟩ := hC.snd y hy
      have hob := h.inv.all kk _ _ h0 h1 a b
      exact ⟨(h.known.cmp kk _ _ hob.kk a b).1, y.2⟩
    · rintro ⟨hx, hk⟩
      obtain ⟨_, b, c⟩ := h.known.snd x hx
      rw [hk] at c
      rcases hC.cmp x.name x b c with e | ⟨y, hy, e⟩
      · cases e
      · exact List.mem_map.2 ⟨y, hy, e⟩
  refine sorted_one ?_ ((ordL_sorted l h.apart).filter _) (fun x => ?_)
  · rw [List.pairwise_map]
    have hnd := hC.nd
    refine List.Pairwise.imp_of_mem (R := fun a b : Obk kk => ltOf (cfk kk) b a = false ∧ a.1.name ≠ b.1.name) ?_ (hs.and hnd)
    rintro a b ha hb ⟨h2, h3⟩
    obtain ⟨sa, aa, _⟩ := hC.snd a ha
    obtain ⟨sb, ab, _⟩ := hC.snd b hb
    have oa := h.inv.all kk _ _ h0 h1 sa aa
    have ob := h.inv.all kk _ _ h0 h1 sb ab
    unfold aheadB
    rw [if_pos (a.2.trans b.2.symm)]
    unfold ltOf cfk at h2
    by_cases hk : kk = 1
    · rw [if_pos (a.2.trans hk)]
      rw [if_pos hk] at h2
      have hu : a.1.uid ≠ b.1.uid := fun e => h3 (by rw [(oa.pod hk).1, (ob.pod hk).1, e])
      unfold Lib.compareInt at h2
      by_cases hlt : b.1.uid < a.1.uid
      · simp [hlt] at h2
      · simp
        omega
    · rw [if_neg (by rw [a.2]; exact hk)]
      rw [if_neg hk] at h2
      simp only [decide_eq_false_iff_not, cmpB_lt] at h2
      simp only [decide_eq_true_eq]
      rcases bytes_ne h3 with e | e
      · exact e
      · rw [ByteArray.toList_eq, ByteArray.toList_eq] at e
        exact absurd e h2
  · rw [hmem]
    unfold ofKind
    rw [List.mem_filter, (ordL_perm l).mem_iff]
    simp
/-- The events that both tell. -/
theorem RelS.since (h : RelS lim ver cre f n D pre l es) (v M m : Nat) (hv : (v : Int) ≤ ver) (h16 : ver - v ≤ 16) (hm : min (M : Int) (ver - v) = (m : Int)) : ((List.range m).flatMap fun i : Nat => evP (f (((v : Int) + 1 + (i : Int)) % 16).toNat)) = ((es.drop v).take M).flatMap evP ∧ ((es.drop v).take M).length = m := by
  have hl := h.hist.len
  have e : (es.drop v).take M = (List.range m).map (fun i : Nat => f (((v : Int) + 1 + (i : Int)) % 16).toNat) := by
    apply List.ext_getElem
    · simp
      omega
    · intro i h1 h2
      simp at h1 h2
      simp only [List.getElem_take, List.getElem_drop, List.getElem_map, List.getElem_range]
      have := h.hist.log (v + i) (by omega) (by omega)
      rw [show (0 : Int) + 1 + ((v + i : Nat) : Int) = (v : Int) + 1 + (i : Int) by omega] at this
      exact this.symm
  rw [e]
  constructor
  · rw [List.flatMap_map]
  · simp
end

section
variable {own : Nat → Nat} {w : World} {i sb rb : Nat}
theorem pair_list (hth : Thing own w i sb rb) (kk : Int) (h0 : 0 ≤ kk) (h1 : kk ≤ 255) :
    Calls Tryz.prog 38 #[.pointer (some ⟨sb, 0, none⟩), .int .u8 kk] w fun e w1 => ∃ v ver, e = .returned (.tuple #[v, .int .i64 ver]) ∧ Below w.heap.size w w1 ∧
      Calls Tryz.prog 54 #[.pointer (some ⟨rb, 0, none⟩), .int .u8 kk] w1 fun e w2 => ∃ v2, e = .returned (.tuple #[v2, .int .i64 ver]) ∧ Below w1.heap.size w1 w2 ∧ ∃ L : List Ob, L.length ≤ 64 ∧ w2.ownsRow w.heap.size 84 9 v L.length (flatO L) ∧ w2.ownsRow 0 84 9 v2 L.length (flatO L) := by
  obtain ⟨mb, lim, ver, cre, f, n, D, pv, ev, nv, sp, pre, l, es, hS, o1, o2, hR, hrel⟩ := hth
  have hnn := hrel.inv.nn
  have hv1 := hrel.inv.v1
  haveI : Inhabited (Obk kk) := ⟨⟨⟨kk, ⟨#[]⟩, 0, 0, 0, 0, 0, 0, false⟩, rfl⟩⟩
  refine (list_any w sb mb lim ver cre (logOf f) n D kk hS h0 h1 (by omega) hrel.inv.good).mono ?_
  rintro e w1 ⟨v, l', rfl, hrow, _, hC, hs, _, hb1⟩
  refine ⟨v, ver, rfl, hb1, ?_⟩
  have hbl := hrel.bl
  refine (rlist_any (hR.below hb1) rfl rfl hrel.b1 (by omega) hrel.kinds kk).mono ?_
  rintro e w2 ⟨v2, rfl, hrow2, hb2⟩
  have hL := hrel.list hC hs h0 h1
  have hlen : (ofKind kk (ordL l)).length ≤ 64 := by
    have h1 := List.length_filter_le (fun o : Ob => o.kind == kk) (ordL l)
    rw [ordL_len] at h1
    unfold ofKind
    omega
  refine ⟨v2, by rw [hrel.vp], hb2, ofKind kk (ordL l), hlen, ?_, own_mono hrow2 (Nat.zero_le _)⟩
  have h2 := row_below hrow hb2
  rw [flat_is, hL] at h2
  rw [show l'.length = (ofKind kk (ordL l)).length by rw [← hL, List.length_map]] at h2
  exact h2

theorem pair_since (hth : Thing own w i sb rb) (v most : Int) :
    Calls Tryz.prog 63 #[.pointer (some ⟨sb, 0, none⟩), .int .i64 v, .int .i64 most] w fun e w1 => ∃ x er, e = .returned (.tuple #[x, .int .i64 er]) ∧ Below w.heap.size w w1 ∧
      Calls Tryz.prog 64 #[.pointer (some ⟨rb, 0, none⟩), .int .i64 v, .int .i64 most] w1 fun e w2 => ∃ x2, e = .returned (.tuple #[x2, .int .i64 er]) ∧ Below w1.heap.size w1 w2 ∧ ∃ L : List (Int × Ob), L.length ≤ 64 ∧ w2.ownsRow w.heap.size 170 10 x L.length (L.flatMap evP) ∧ w2.ownsRow 0 170 10 x2 L.length (L.flatMap evP) := by
  obtain ⟨mb, lim, ver, cre, f, n, D, pv, ev, nv, sp, pre, l, es, hS, o1, o2, hR, hrel⟩ := hth
  have hvp := hrel.vp
  have hv1 := hrel.inv.v1
  have hbe := hrel.be
  by_cases hbad : v < 0 ∨ ver < v ∨ most < 0
  · refine (since_badM w sb mb lim ver cre (logOf f) n D v most hS hbad).mono ?_
    rintro e w1 ⟨rfl, rfl⟩
    refine ⟨_, _, rfl, Below.refl _ _, ?_⟩
    refine (rsince_bad hR rfl rfl hrel.b1 v most (by omega)).mono ?_
    rintro e w2 ⟨rfl, rfl⟩
    exact ⟨_, rfl, Below.refl _ _, [], by simp, World.ownsRow_nil _ _ _ _, World.ownsRow_nil _ _ _ _⟩
  · by_cases hold : 16 < ver - v
    · refine (since_oldM w sb mb lim ver cre (logOf f) n D v most (by omega) hS (by omega) (by omega) hv1 hold).mono ?_
      rintro e w1 ⟨rfl, rfl⟩
      refine ⟨_, _, rfl, Below.refl _ _, ?_⟩
      refine (rsince_old hR rfl rfl hrel.b1 v most (by omega) (by omega) (by omega)).mono ?_
      rintro e w2 ⟨rfl, rfl⟩
      exact ⟨_, rfl, Below.refl _ _, [], by simp, World.ownsRow_nil _ _ _ _, World.ownsRow_nil _ _ _ _⟩
    · obtain ⟨N, rfl⟩ : ∃ N : Nat, v = (N : Int) := ⟨v.toNat, by omega⟩
      obtain ⟨M, rfl⟩ : ∃ M : Nat, most = (M : Int) := ⟨most.toNat, by omega⟩
      obtain ⟨m, hm⟩ : ∃ m : Nat, min (M : Int) (ver - N) = (m : Int) := ⟨(min (M : Int) (ver - N)).toNat, by omega⟩
      refine (since_okM w sb mb lim ver cre f n D N M m (by omega) hS (by omega) hv1 (by omega) hm (by omega)).mono ?_
      rintro e w1 ⟨x, rfl, hrow, _, hb1⟩
      refine ⟨_, _, rfl, hb1, ?_⟩
      refine (rsince_ok (hR.below hb1) rfl rfl hrel.b1 (by have := hrel.b1; omega) N M M rfl (by omega) (by omega)).mono ?_
      rintro e w2 ⟨x2, rfl, hrow2, hb2⟩
      obtain ⟨e1, e2⟩ := hrel.since N M m (by omega) (by omega) hm
      rw [e1] at hrow
      refine ⟨_, rfl, hb2, (es.drop N).take M, by rw [e2]; omega, ?_, own_mono hrow2 (Nat.zero_le _)⟩
      rw [e2]
      exact row_below hrow hb2
end

end Go.Proofs.YtdgfjneapialdaaGreatDoor.S
