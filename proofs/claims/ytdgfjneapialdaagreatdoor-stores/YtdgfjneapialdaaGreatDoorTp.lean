import Derived.Test.YtdgfjneapialdaaGreatDoorTo
import Derived.Test.YtdgfjneapialdaaGreatDoorTl
import Derived.Test.YtdgfjneapialdaaGreatDoorTk
import Derived.Test.YtdgfjneapialdaaGreatDoorTi
namespace Go.Proofs.YtdgfjneapialdaaGreatDoor.S
open Go Go.RowKit Go.Maps

/-- The program's store and the reference's are one. -/
structure RelS (lim ver cre : Int) (f : Nat → Int × Ob) (n : Nat) (D : DataW Unit) (pre : List (List Ob)) (l : List Ob) (es : List (Int × Ob)) : Prop where
  l1 : 1 ≤ lim
  l2 : lim ≤ 64
  vp : ver = (pre.length : Int)
  inv : Inv ver cre n D
  known : KnownIs l D
  hist : Hist (.map []) 0 ver f es D
  tidy : Tidy D
  size : Maps.size D = l.length
  full : (l.length : Int) ≤ lim

theorem filter_len {X : Ob} : ∀ {l : List Ob}, (l.Pairwise fun a b => ¬ (a.kind = b.kind ∧ a.name = b.name)) → ((∃ x ∈ l, unlike X x = false) → (l.filter (unlike X)).length + 1 = l.length) ∧ ((∀ x ∈ l, unlike X x = true) → (l.filter (unlike X)).length = l.length)
  | [], _ => ⟨fun ⟨x, hx, _⟩ => by simp at hx, fun _ => rfl⟩
  | y :: r, h => by
    rw [List.pairwise_cons] at h
    have ih := filter_len (X := X) h.2
    constructor
    · rintro ⟨x, hx, hu⟩
      by_cases hy : unlike X y = true
      · rcases List.mem_cons.1 hx with rfl | hx
        · rw [hy] at hu; cases hu
        · have := ih.1 ⟨x, hx, hu⟩
          simp [hy]
          omega
      · have all : ∀ z ∈ r, unlike X z = true := by
          intro z hz
          refine unlike_of (fun e => h.1 z hz ?_)
          have hyx : y.kind = X.kind ∧ y.name = X.name := by
            by_cases hh : y.kind = X.kind ∧ y.name = X.name
            · exact hh
            · exact absurd (unlike_of hh) hy
          exact ⟨hyx.1.trans e.1.symm, hyx.2.trans e.2.symm⟩
        have := ih.2 all
        simp [hy]
        omega
    · intro all
      have := ih.2 (fun z hz => all z (List.mem_cons_of_mem _ hz))
      simp [all y (by simp), this]

section
variable {lim ver cre : Int} {f : Nat → Int × Ob} {n : Nat} {D : DataW Unit} {pre : List (List Ob)} {l : List Ob} {es : List (Int × Ob)}
theorem RelS.kinds (h : RelS lim ver cre f n D pre l es) : ∀ x ∈ l, x.kind = 0 ∨ x.kind = 1 := fun x hx => (h.known.snd x hx).1
theorem RelS.kb (h : RelS lim ver cre f n D pre l es) : ∀ x ∈ l, 0 ≤ x.kind ∧ x.kind ≤ 255 := fun x hx => by have := h.kinds x hx; omega
theorem RelS.b1 (h : RelS lim ver cre f n D pre l es) : pre.length ≤ 600 := by have := h.inv.v1; have := h.vp; omega
theorem RelS.bl (h : RelS lim ver cre f n D pre l es) : l.length ≤ 64 := by have := h.full; have := h.l2; omega
theorem RelS.be (h : RelS lim ver cre f n D pre l es) : es.length = pre.length := by have := h.hist.len; have := h.vp; omega
/-- What is found by a kind and a name. -/
theorem RelS.look (h : RelS lim ver cre f n D pre l es) {w : World} {sb mb : Nat} {log : List Value} (hS : IsStore w sb mb lim ver cre log n D) (k : Int) (s : ByteArray) (h0 : 0 ≤ k) (h1 : k ≤ 255) (hs : s.size ≤ maxLen) :
    (∃ o, At D k s o ∧ getA l k s = (o, 0) ∧ ObOk ver cre k s o) ∨ (Out D k s ∧ getA l k s = (Ob.zero, 3) ∧ atL k s l = -1) := by
  rcases hS.look k s h0 h1 hs with ⟨o, ha⟩ | ha
  · have hob := h.inv.all k s o h0 h1 hs ha
    obtain ⟨hm, hk, hn⟩ := h.known.cmp k s o hob.kk hs ha
    rcases atL_cases k s l with ⟨i, hi, hat, hx1, hx2⟩ | ⟨_, hno⟩
    · have hx := (h.known.snd l[i] (List.getElem_mem hi)).2.2
      rw [hx1, hx2] at hx
      refine Or.inl ⟨o, ha, ?_, hob⟩
      rw [getA_hit hi hat, at_inj hx ha]
    · exact absurd ⟨hk, hn⟩ (hno o hm)
  · rcases atL_cases k s l with ⟨i, hi, hat, hx1, hx2⟩ | ⟨hat, _⟩
    · have hx := (h.known.snd l[i] (List.getElem_mem hi)).2.2
      rw [hx1, hx2] at hx
      have := hx.1
      rw [show has D (klit k s) = false from ha] at this
      cases this
    · exact Or.inr ⟨ha, getA_miss hat, hat⟩
/-- One write more. -/
theorem RelS.wrote (h : RelS lim ver cre f n D pre l es) {so cre' : Int} {X : Ob} {n' : Nat} (hk : X.kind = 0 ∨ X.kind = 1) (hn : X.name.size ≤ maxLen) (hv : X.version = ver + 1) (hI : Inv (ver + 1) cre' n' (doneTo D (so, X))) (hx : (∃ o, At D X.kind X.name o) ∨ (Out D X.kind X.name ∧ so ≠ 2 ∧ (l.length : Int) < lim)) :
    RelS lim (ver + 1) cre' (upd f ((ver + 1) % 16).toNat (so, X)) n' (doneTo D (so, X)) (pre ++ [l]) (takenL l so X) (es ++ [(so, X)]) := by
  have hev : EvOk (so, X) := ⟨hk, hn⟩
  have hfl := filter_len (X := X) h.known.nd
  have hsz : Maps.size (doneTo D (so, X)) = (takenL l so X).length ∧ ((takenL l so X).length : Int) ≤ lim := by
    have hfull := h.full
    have hsize := h.size
    unfold takenL
    rcases hx with ⟨o, ha⟩ | ⟨ho, hso, hlt⟩
    · obtain ⟨hm, e1, e2⟩ := h.known.cmp _ _ _ hk hn ha
      have hu : unlike X o = false := by
        cases hh : unlike X o with
        | false => rfl
        | true => exact absurd ⟨e1, e2⟩ (unlike_ne hh)
      have hl := hfl.1 ⟨o, hm, hu⟩
      have hh : has D (klit X.kind X.name) = true := ha.1
      by_cases e : so = 2
      · have := size_del (k := klit X.kind X.name) h.tidy
        rw [hh] at this
        simp [doneTo, e] at this ⊢
        omega
      · have := size_put (k := klit X.kind X.name) h.tidy X.dat
        rw [hh] at this
        simp [doneTo, e] at this ⊢
        omega
    · have hall : ∀ x ∈ l, unlike X x = true := by
        intro x hx
        refine unlike_of (fun e => ?_)
        have := (h.known.snd x hx).2.2.1
        rw [e.1, e.2] at this
        rw [show has D (klit X.kind X.name) = false from ho] at this
        cases this
      have hl := hfl.2 hall
      have := size_put (k := klit X.kind X.name) h.tidy X.dat
      rw [show has D (klit X.kind X.name) = false from ho] at this
      simp [doneTo, hso] at this ⊢
      omega
  refine ⟨h.l1, h.l2, by rw [List.length_append, h.vp]; simp, hI, h.known.taken h.inv.im hev, h.hist.next hev hv, ?_, hsz.1, hsz.2⟩
  unfold doneTo
  split
  · exact h.tidy.del _
  · exact h.tidy.put (klit_key _ _) _
end

/-- The i-th pair: a store of the program and one of the reference. -/
def Thing (own : Nat → Nat) (w : World) (i sb rb : Nat) : Prop :=
  ∃ (mb : Nat) (lim ver cre : Int) (f : Nat → Int × Ob) (n : Nat) (D : DataW Unit) (pv ev nv : Value) (sp : List Value) (pre : List (List Ob)) (l : List Ob) (es : List (Int × Ob)),
    IsStore w sb mb lim ver cre (logOf f) n D ∧ own sb = 2 * i + 1 ∧ own mb = 2 * i + 1 ∧ IsRef (Others own w (2 * i + 2)) w rb lim cre pv ev (sp ++ [nv]) (pre ++ [l]) es ∧ RelS lim ver cre f n D pre l es

section
variable {own : Nat → Nat} {w w' : World} {i j rb : Nat} {lim born : Int} {pv ev : Value} {sv : List Value} {past : List (List Ob)} {es : List (Int × Ob)}
theorem IsRef.other (h : IsRef (Others own w j) w rb lim born pv ev sv past es) (hij : i ≠ j) (k : KeptC (Others own w i) w w') : IsRef (Others (ownNew own w i) w' j) w' rb lim born pv ev sv past es :=
  (h.more (C' := Others (ownNew own w i) w' j) others_old).kept k (fun b hb hlt => ⟨hlt, fun e => hb ⟨Nat.lt_of_lt_of_le hlt k.size, by rw [ownNew_old hlt, e]; exact hij⟩⟩)
theorem IsRef.same (h : IsRef (Others own w i) w' rb lim born pv ev sv past es) (hs : w.heap.size ≤ w'.heap.size) : IsRef (Others (ownNew own w i) w' i) w' rb lim born pv ev sv past es :=
  h.more (fun b _ hb => (others_self hs i b).1 hb)
theorem kept_of {sb mb : Nat} (k : Kept sb mb w w') (h1 : own sb = i) (h2 : own mb = i) : KeptC (Others own w i) w w' :=
  ⟨k.os, k.tape, k.output, k.size, fun b hb hlt => k.block b hlt (fun e => hb.2 (by rw [e]; exact h1)) (fun e => hb.2 (by rw [e]; exact h2))⟩
end

section
variable {own : Nat → Nat} {w w' : World} {i sb rb a : Nat}
theorem Thing.other (h : Thing own w i sb rb) (h1 : a ≠ 2 * i + 1) (h2 : a ≠ 2 * i + 2) (k : KeptC (Others own w a) w w') : Thing (ownNew own w a) w' i sb rb := by
  obtain ⟨mb, lim, ver, cre, f, n, D, pv, ev, nv, sp, pre, l, es, hS, o1, o2, hR, hrel⟩ := h
  refine ⟨mb, lim, ver, cre, f, n, D, pv, ev, nv, sp, pre, l, es, hS.keep (k.block _ ⟨hS.lt, by rw [o1]; omega⟩ hS.lt) (k.block _ ⟨hS.mlt, by rw [o2]; omega⟩ hS.mlt), (ownNew_old hS.lt).trans o1, (ownNew_old hS.mlt).trans o2, hR.other h2 k, hrel⟩
theorem Thing.lt (h : Thing own w i sb rb) : sb < w.heap.size ∧ rb < w.heap.size := by
  obtain ⟨mb, lim, ver, cre, f, n, D, pv, ev, nv, sp, pre, l, es, hS, o1, o2, hR, hrel⟩ := h
  exact ⟨hS.lt, hR.lt⟩
/-- Both calls have changed nothing. -/
theorem Thing.halves {w1 : World} (h : Thing own w i sb rb) (k1 : Below w.heap.size w w1) (k2 : Below w1.heap.size w1 w') : Thing (ownNew (ownNew own w (2 * i + 1)) w1 (2 * i + 2)) w' i sb rb := by
  obtain ⟨mb, lim, ver, cre, f, n, D, pv, ev, nv, sp, pre, l, es, hS, o1, o2, hR, hrel⟩ := h
  have hS1 := hS.below k1
  have hR1 := hR.other (i := 2 * i + 1) (by omega) (KeptC.of_below k1 rfl)
  exact ⟨mb, lim, ver, cre, f, n, D, pv, ev, nv, sp, pre, l, es, hS1.below k2, (ownNew_old hS1.lt).trans ((ownNew_old hS.lt).trans o1), (ownNew_old hS1.mlt).trans ((ownNew_old hS.mlt).trans o2), (hR1.below k2).same k2.size, hrel⟩
end

/-- Both stores, one of which has been called, or whose world has been written to by the script. -/
structure Half (own : Nat → Nat) (w : World) (i sb mb rb : Nat) (lim ver cre born : Int) (log : List Value) (n : Nat) (D : DataW Unit) (pv ev : Value) (sv : List Value) (past : List (List Ob)) (es : List (Int × Ob)) : Prop where
  st : IsStore w sb mb lim ver cre log n D
  o1 : own sb = 2 * i + 1
  o2 : own mb = 2 * i + 1
  rf : IsRef (Others own w (2 * i + 2)) w rb lim born pv ev sv past es
section
variable {own : Nat → Nat} {w w' : World} {i sb mb rb a : Nat} {lim ver cre born : Int} {log : List Value} {n : Nat} {D : DataW Unit} {pv ev : Value} {sv : List Value} {past : List (List Ob)} {es : List (Int × Ob)}
theorem Half.other (h : Half own w i sb mb rb lim ver cre born log n D pv ev sv past es) (h1 : a ≠ 2 * i + 1) (h2 : a ≠ 2 * i + 2) (k : KeptC (Others own w a) w w') : Half (ownNew own w a) w' i sb mb rb lim ver cre born log n D pv ev sv past es :=
  ⟨h.st.keep (k.block _ ⟨h.st.lt, by rw [h.o1]; omega⟩ h.st.lt) (k.block _ ⟨h.st.mlt, by rw [h.o2]; omega⟩ h.st.mlt), (ownNew_old h.st.lt).trans h.o1, (ownNew_old h.st.mlt).trans h.o2, h.rf.other h2 k⟩
/-- The program's call. -/
theorem Half.prog {ver' cre' : Int} {log' : List Value} {n' : Nat} {D' : DataW Unit} (h : Half own w i sb mb rb lim ver cre born log n D pv ev sv past es) (hS : IsStore w' sb mb lim ver' cre' log' n' D') (k : KeptC (Others own w (2 * i + 1)) w w') : Half (ownNew own w (2 * i + 1)) w' i sb mb rb lim ver' cre' born log' n' D' pv ev sv past es :=
  ⟨hS, (ownNew_old h.st.lt).trans h.o1, (ownNew_old h.st.mlt).trans h.o2, h.rf.other (by omega) k⟩
/-- The reference's. -/
theorem Half.refs {born' : Int} {pv' ev' : Value} {sv' : List Value} {past' : List (List Ob)} {es' : List (Int × Ob)} (h : Half own w i sb mb rb lim ver cre born log n D pv ev sv past es) (hR : IsRef (Others own w (2 * i + 2)) w' rb lim born' pv' ev' sv' past' es') (k : KeptC (Others own w (2 * i + 2)) w w') : Half (ownNew own w (2 * i + 2)) w' i sb mb rb lim ver cre born' log n D pv' ev' sv' past' es' :=
  ⟨h.st.keep (k.block _ ⟨h.st.lt, by rw [h.o1]; omega⟩ h.st.lt) (k.block _ ⟨h.st.mlt, by rw [h.o2]; omega⟩ h.st.mlt), (ownNew_old h.st.lt).trans h.o1, (ownNew_old h.st.mlt).trans h.o2, hR.same k.size⟩
end

/-- What is to be said of a call on the i-th pair, the program's first; the script may write to its own blocks between the two. -/
def PairOf (own : Nat → Nat) (w : World) (i sb rb fn gn : Nat) (xs ys : Array Value) : Prop :=
  Calls Tryz.prog fn xs w fun e w1 => ∃ (o : Ob) (er : Int), e = .returned (.tuple #[.agg o.arr, .int .i64 er]) ∧ KeptC (Others own w (2 * i + 1)) w w1 ∧
    ∀ W1, KeptC (Others (ownNew own w (2 * i + 1)) w1 0) w1 W1 → Calls Tryz.prog gn ys W1 fun e w2 => e = .returned (.tuple #[.agg o.arr, .int .i64 er]) ∧ KeptC (Others (ownNew (ownNew own w (2 * i + 1)) w1 0) W1 (2 * i + 2)) W1 w2 ∧ Thing (ownNew (ownNew (ownNew own w (2 * i + 1)) w1 0) W1 (2 * i + 2)) w2 i sb rb

section
variable {own : Nat → Nat} {w : World} {i sb rb mb fn gn : Nat} {lim ver cre : Int} {f : Nat → Int × Ob} {n : Nat} {D : DataW Unit} {pv ev nv : Value} {sp : List Value} {pre : List (List Ob)} {l : List Ob} {es : List (Int × Ob)} {xs ys : Array Value}
theorem pair_kept (hS : IsStore w sb mb lim ver cre (logOf f) n D) (o1 : own sb = 2 * i + 1) (o2 : own mb = 2 * i + 1) (hR : IsRef (Others own w (2 * i + 2)) w rb lim cre pv ev (sp ++ [nv]) (pre ++ [l]) es) (hrel : RelS lim ver cre f n D pre l es) (o : Ob) (er : Int)
    (h1 : Calls Tryz.prog fn xs w fun e w' => e = .returned (.tuple #[.agg o.arr, .int .i64 er]) ∧ IsStore w' sb mb lim ver cre (logOf f) n D ∧ Kept sb mb w w')
    (h2 : ∀ C W, IsRef C W rb lim cre pv ev (sp ++ [nv]) (pre ++ [l]) es → Calls Tryz.prog gn ys W fun e w' => e = .returned (.tuple #[.agg o.arr, .int .i64 er]) ∧ Below W.heap.size W w') : PairOf own w i sb rb fn gn xs ys := by
  refine h1.mono ?_
  rintro e w1 ⟨rfl, hS1, hK1⟩
  have hk1 := kept_of hK1 o1 o2
  have H0 : Half own w i sb mb rb lim ver cre cre (logOf f) n D pv ev (sp ++ [nv]) (pre ++ [l]) es := ⟨hS, o1, o2, hR⟩
  have H1 := H0.prog hS1 hk1
  refine ⟨o, er, rfl, hk1, fun W1 hkW => ?_⟩
  have H2 := H1.other (a := 0) (by omega) (by omega) hkW
  refine (h2 _ W1 H2.rf).mono ?_
  rintro e w2 ⟨rfl, hb2⟩
  have hk2 : KeptC (Others (ownNew (ownNew own w (2 * i + 1)) w1 0) W1 (2 * i + 2)) W1 w2 := KeptC.of_below hb2 rfl
  have H3 := H2.refs (H2.rf.below hb2) hk2
  exact ⟨rfl, hk2, mb, lim, ver, cre, f, n, D, pv, ev, nv, sp, pre, l, es, H3.st, H3.o1, H3.o2, H3.rf, hrel⟩
theorem pair_same (_hth : Thing own w i sb rb) (hS : IsStore w sb mb lim ver cre (logOf f) n D) (o1 : own sb = 2 * i + 1) (o2 : own mb = 2 * i + 1) (hR : IsRef (Others own w (2 * i + 2)) w rb lim cre pv ev (sp ++ [nv]) (pre ++ [l]) es) (hrel : RelS lim ver cre f n D pre l es) (o : Ob) (er : Int)
    (h1 : Calls Tryz.prog fn xs w fun e w' => e = .returned (.tuple #[.agg o.arr, .int .i64 er]) ∧ Below w.heap.size w w')
    (h2 : ∀ C W, IsRef C W rb lim cre pv ev (sp ++ [nv]) (pre ++ [l]) es → Calls Tryz.prog gn ys W fun e w' => e = .returned (.tuple #[.agg o.arr, .int .i64 er]) ∧ Below W.heap.size W w') : PairOf own w i sb rb fn gn xs ys :=
  pair_kept hS o1 o2 hR hrel o er (h1.mono (fun _ _ ⟨he, hb⟩ => ⟨he, hS.below hb, belowKept hb⟩)) h2
theorem pair_wrote (hS : IsStore w sb mb lim ver cre (logOf f) n D) (o1 : own sb = 2 * i + 1) (o2 : own mb = 2 * i + 1) (hR : IsRef (Others own w (2 * i + 2)) w rb lim cre pv ev (sp ++ [nv]) (pre ++ [l]) es) (hrel : RelS lim ver cre f n D pre l es) {so cre' : Int} {X : Ob} {n' : Nat}
    (hrel' : RelS lim (ver + 1) cre' (upd f ((ver + 1) % 16).toNat (so, X)) n' (doneTo D (so, X)) (pre ++ [l]) (takenL l so X) (es ++ [(so, X)]))
    (h1 : Calls Tryz.prog fn xs w fun e w' => e = .returned (.tuple #[.agg X.arr, .int .i64 0]) ∧ IsStore w' sb mb lim (ver + 1) cre' (logPut (logOf f) (((ver + 1) % 16).toNat * 10) (evOb so X)) n' (doneTo D (so, X)) ∧ Kept sb mb w w')
    (h2 : ∀ C W, (∀ b, b < w.heap.size → own b ≠ 2 * i + 1 → own b ≠ 0 → W.heap[b]? = w.heap[b]?) → IsRef C W rb lim cre pv ev (sp ++ [nv]) (pre ++ [l]) es → (∀ b, C b → b < W.heap.size) → Calls Tryz.prog gn ys W fun e w' => e = .returned (.tuple #[.agg X.arr, .int .i64 0]) ∧ Wrote C W w' rb lim cre' (sp ++ [nv]) (pre ++ [l]) es l so X) : PairOf own w i sb rb fn gn xs ys := by
  refine h1.mono ?_
  rintro e w1 ⟨rfl, hS1, hK1⟩
  have hk1 := kept_of hK1 o1 o2
  have hv0 := hrel.inv.v0
  have H0 : Half own w i sb mb rb lim ver cre cre (logOf f) n D pv ev (sp ++ [nv]) (pre ++ [l]) es := ⟨hS, o1, o2, hR⟩
  have e1 : logPut (logOf f) (((ver + 1) % 16).toNat * 10) (evOb so X) = logOf (upd f ((ver + 1) % 16).toNat (so, X)) := logPut_logOf f ((ver + 1) % 16).toNat (by omega) (so, X)
  rw [e1] at hS1
  have H1 := H0.prog hS1 hk1
  refine ⟨X, 0, rfl, hk1, fun W1 hkW => ?_⟩
  have H2 := H1.other (a := 0) (by omega) (by omega) hkW
  refine (h2 _ W1 (fun b hb h3 h4 => ?_) H2.rf others_lt).mono ?_
  · have hb1 := Nat.lt_of_lt_of_le hb hk1.size
    exact (hkW.block b ⟨hb1, by rw [ownNew_old hb]; exact h4⟩ hb1).trans (hk1.block b ⟨hb, h3⟩ hb)
  rintro e w2 ⟨rfl, ⟨⟨pv', ev', nv', hR2⟩, hk2⟩⟩
  have H3 := H2.refs hR2 hk2
  exact ⟨rfl, hk2, mb, lim, ver + 1, cre', upd f ((ver + 1) % 16).toNat (so, X), n', doneTo D (so, X), pv', ev', nv', sp ++ [nv], pre ++ [l], takenL l so X, es ++ [(so, X)], H3.st, H3.o1, H3.o2, H3.rf, hrel'⟩
end

end Go.Proofs.YtdgfjneapialdaaGreatDoor.S
