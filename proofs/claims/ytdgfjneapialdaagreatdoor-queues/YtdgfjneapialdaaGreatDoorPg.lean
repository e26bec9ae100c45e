import Derived.Test.YtdgfjneapialdaaGreatDoorPf
namespace Go.Proofs.YtdgfjneapialdaaGreatDoor
open Go Go.RowKit Go.Maps Go.Lib Go.Sort

def ltP (a b : Dk) : Prop := a.2 < b.2 ∨ (a.2 = b.2 ∧ a.1 < b.1)
theorem ltP_trans {a b c : Dk} (h1 : ltP a b) (h2 : ltP b c) : ltP a c := by
  unfold ltP at *
  rcases h1 with h1 | ⟨h1, h3⟩
  · rcases h2 with h2 | ⟨h2, h4⟩
    · exact Or.inl (by omega)
    · exact Or.inl (by omega)
  · rcases h2 with h2 | ⟨h2, h4⟩
    · exact Or.inl (by omega)
    · exact Or.inr ⟨by omega, List.lt_trans h3 h4⟩
theorem ltP_irrefl (a : Dk) : ¬ ltP a a := by
  unfold ltP
  rintro (h | ⟨_, h⟩)
  · omega
  · exact List.lt_irrefl _ h

theorem bytesLess_iff : ∀ a b : List UInt8, Op.bytesLess a b = true ↔ a < b
  | [], [] => by simp [Op.bytesLess]
  | [], _ :: _ => by simp [Op.bytesLess]
  | _ :: _, [] => by simp [Op.bytesLess]
  | x :: a, y :: b => by
    rw [Op.bytesLess, List.cons_lt_cons_iff, Bool.or_eq_true, Bool.and_eq_true, bytesLess_iff a b]
    simp
theorem bk_list (a : List UInt8) : (bk a).toList = a := by rw [ByteArray.toList_eq]; rfl

/-- The first of those that are due, by ticks and keys. -/
def Best (l : List Dk) (j : Nat) (r : Int) : Prop := (j = 0 ∧ r = -1) ∨ ∃ b, ∃ hb : b < l.length, b < j ∧ r = (b : Int) ∧ ∀ i (hi : i < l.length), i < j → ¬ ltP l[i] l[b]

theorem Best.turn {l : List Dk} {j b : Nat} (hj : j < l.length) (hb : b < l.length) (hmin : ∀ i (hi : i < l.length), i < j → ¬ ltP l[i] l[b]) (h : ltP l[j] l[b]) : Best l (j + 1) (j : Int) :=
  Or.inr ⟨j, hj, by omega, rfl, fun i hi h1 => by
    by_cases e : i = j
    · subst e; exact ltP_irrefl _
    · exact fun h2 => hmin i hi (by omega) (ltP_trans h2 h)⟩
theorem Best.stay {l : List Dk} {j b : Nat} (hj : j < l.length) (hb : b < l.length) (hbj : b < j) (hmin : ∀ i (hi : i < l.length), i < j → ¬ ltP l[i] l[b]) (h : ¬ ltP l[j] l[b]) : Best l (j + 1) (b : Int) :=
  Or.inr ⟨b, hb, by omega, rfl, fun i hi h1 => by
    by_cases e : i = j
    · subst e; exact h
    · exact hmin i hi (by omega)⟩

set_option maxRecDepth 100000 in
set_option maxHeartbeats 1000000 in
theorem first_any {w : World} {base : Nat} {v : Value} {l : List Dk} (h : w.ownsRow base 119 2 v l.length (flatD l)) (hl : l.length ≤ 2000000000000) :
    Calls Tryz.prog 135 #[v] w fun e w' => ∃ r, e = .returned (.int .i64 r) ∧ Best l l.length r ∧ ∃ n, w' = w.drewN n := by
  obtain ⟨ad, cap, rfl, hcap, had⟩ := row_form2 h
  have HAD : Hid (0 < l.length → ∃ g, ad = some ⟨g, 0, none⟩ ∧ g < w.heap.size ∧ ∀ j (hj : j < l.length), w.cell? ⟨g, j * 2, none⟩ = some (.string (bk l[j].1)) ∧ w.cell? ⟨g, j * 2 + 1, none⟩ = some (.int .i64 l[j].2)) := had
  clear h had
  go_enter Tryz.func135, Tryz.ntmps135
  go_wp2
  go_loopw [3, 4] (fun bv iv wr => ∃ (j : Nat) (bb : Int), j ≤ l.length ∧ iv = .int .i64 j ∧ bv = .int .i64 bb ∧ Hid (Best l j bb) ∧ ∃ n, wr = w.drewN n) (fun _ iv _ => l.length - (intOf iv).toNat)
  case atStart => exact ⟨0, -1, Nat.zero_le _, rfl, rfl, Or.inl ⟨rfl, rfl⟩, 0, rfl⟩
  case round =>
    obtain ⟨j, bb, hj, rfl, rfl, HB, n, rfl⟩ := hrel
    by_cases hjl : j < l.length
    · obtain ⟨g, rfl, hgl, hcc⟩ := HAD.out (by omega)
      have hjlt : ((j : Int) < (l.length : Int)) := by omega
      have hx0 : w.cell? ⟨g, j * 2, none⟩ = some (.string (bk l[j].1)) := (hcc j hjl).1
      have hx1 : w.cell? ⟨g, j * 2 + 1, none⟩ = some (.int .i64 l[j].2) := (hcc j hjl).2
      rcases HB.out with ⟨rfl, rfl⟩ | ⟨b, hbl, hbj, rfl, hmin⟩
      · go_wp2_with fail
        go_quiet (fail)
        go_wp2
        go_roundw
        case rel => exact ⟨1, 0, by omega, by simp, by simp, Or.inr ⟨0, hjl, by omega, rfl, fun i hi h1 => by
          have : i = 0 := by omega
          subst this
          exact ltP_irrefl _⟩, n + nq, rfl⟩
        case measure => simp [intOf]; omega
      · have hy0 : w.cell? ⟨g, b * 2, none⟩ = some (.string (bk l[b].1)) := (hcc b hbl).1
        have hy1 : w.cell? ⟨g, b * 2 + 1, none⟩ = some (.int .i64 l[b].2) := (hcc b hbl).2
        have hb0 : decide ((b : Int) < 0) = false := decide_eq_false (by omega)
        have hblt : ((b : Int) < (l.length : Int)) := by omega
        obtain ⟨x, hx⟩ : ∃ x, x = l[j] := ⟨_, rfl⟩
        obtain ⟨y, hy⟩ : ∃ y, y = l[b] := ⟨_, rfl⟩
        rw [← hx] at hx0 hx1
        rw [← hy] at hy0 hy1
        obtain ⟨xk, xt⟩ := x
        obtain ⟨yk, yt⟩ := y
        have HX : Hid ((xk, xt) = l[j]) := hx
        have HY : Hid ((yk, yt) = l[b]) := hy
        clear hx hy hcc HAD
        simp only at hx0 hx1 hy0 hy1
        by_cases hA : xt < yt
        · have hA' : decide (xt < yt) = true := decide_eq_true hA
          have HLT : Hid (ltP (xk, xt) (yk, yt)) := Or.inl hA
          clear hA
          go_wp2_with fail
          go_quiet (fail)
          go_wp2
          go_roundw
          case rel => exact ⟨j + 1, j, by omega, by simp, rfl, Best.turn hjl hbl hmin (by rw [← HX.out, ← HY.out]; exact HLT.out), n + nq, rfl⟩
          case measure => simp [intOf]; omega
        · have hA' : decide (xt < yt) = false := decide_eq_false hA
          by_cases hE : xt = yt
          · have hE' : (xt == yt) = true := by simp [hE]
            by_cases hL : xk < yk
            · have hL' : Op.bytesLess (bk xk).toList (bk yk).toList = true := by rw [bk_list, bk_list, bytesLess_iff]; exact hL
              have HLT : Hid (ltP (xk, xt) (yk, yt)) := Or.inr ⟨hE, hL⟩
              clear hA hE hL
              go_wp2_with fail
              go_quiet (fail)
              go_wp2
              go_roundw
              case rel => exact ⟨j + 1, j, by omega, by simp, rfl, Best.turn hjl hbl hmin (by rw [← HX.out, ← HY.out]; exact HLT.out), n + nq, rfl⟩
              case measure => simp [intOf]; omega
            · have hL' : Op.bytesLess (bk xk).toList (bk yk).toList = false := by
                rw [bk_list, bk_list]
                cases h : Op.bytesLess xk yk
                · rfl
                · exact absurd ((bytesLess_iff _ _).1 h) hL
              have HLT : Hid (¬ ltP (xk, xt) (yk, yt)) := by
                rintro (h | ⟨_, h⟩)
                · exact hA h
                · exact hL h
              clear hA hE hL
              go_wp2_with fail
              go_quiet (fail)
              go_wp2
              go_roundw
              case rel => exact ⟨j + 1, b, by omega, by simp, rfl, Best.stay hjl hbl hbj hmin (by rw [← HX.out, ← HY.out]; exact HLT.out), n + nq, rfl⟩
              case measure => simp [intOf]; omega
          · have hE' : (xt == yt) = false := beq_eq_false_iff_ne.2 hE
            have HLT : Hid (¬ ltP (xk, xt) (yk, yt)) := by
              rintro (h | ⟨h, _⟩)
              · exact hA h
              · exact hE h
            clear hA hE
            go_wp2_with fail
            go_quiet (fail)
            go_wp2
            go_roundw
            case rel => exact ⟨j + 1, b, by omega, by simp, rfl, Best.stay hjl hbl hbj hmin (by rw [← HX.out, ← HY.out]; exact HLT.out), n + nq, rfl⟩
            case measure => simp [intOf]; omega
    · have hjn : ¬ ((j : Int) < (l.length : Int)) := by omega
      have HB2 : Hid (Best l l.length bb) := by
        have e : j = l.length := by omega
        have := HB.out
        rw [e] at this
        exact this
      clear HAD HB
      go_wp2
      go_ret
      exact ⟨bb, rfl, HB2.out, n, rfl⟩

end Go.Proofs.YtdgfjneapialdaaGreatDoor
namespace Go.Proofs.YtdgfjneapialdaaGreatDoor
open Go Go.RowKit Go.Maps Go.Lib Go.Sort

def withoutL (l : List Dk) (i : Nat) : List Dk := l.take i ++ l.drop (i + 1)
theorem flatD_append (a b : List Dk) : flatD (a ++ b) = flatD a ++ flatD b := by simp [flatD]
theorem one_flat (l : List Dk) : ∀ u ∈ flatD l, u.oneCell' = true := by
  intro u hu
  simp only [flatD, List.mem_flatMap] at hu
  obtain ⟨x, _, hu⟩ := hu
  simp only [encD, List.mem_cons, List.not_mem_nil, or_false] at hu
  rcases hu with rfl | rfl <;> rfl
theorem flatD_take (l : List Dk) (i : Nat) : flatD (l.take i) = (flatD l).take (i * 2) := by
  have h : flatD l = flatD (l.take i) ++ flatD (l.drop i) := by rw [← flatD_append, List.take_append_drop]
  by_cases hi : i ≤ l.length
  · have hl : (flatD (l.take i)).length = i * 2 := by rw [flatD_len, List.length_take, Nat.min_eq_left hi]
    rw [h, ← hl]
    exact List.take_left.symm
  · rw [List.take_of_length_le (by omega), List.take_of_length_le (by rw [flatD_len]; omega)]
theorem flatD_drop (l : List Dk) (i : Nat) : flatD (l.drop i) = (flatD l).drop (i * 2) := by
  have h : flatD l = flatD (l.take i) ++ flatD (l.drop i) := by rw [← flatD_append, List.take_append_drop]
  by_cases hi : i ≤ l.length
  · have hl : (flatD (l.take i)).length = i * 2 := by rw [flatD_len, List.length_take, Nat.min_eq_left hi]
    rw [h, ← hl]
    exact List.drop_left.symm
  · rw [List.drop_of_length_le (by omega), List.drop_of_length_le (by rw [flatD_len]; omega)]
    rfl

set_option maxRecDepth 100000 in
set_option maxHeartbeats 1000000 in
theorem without_any {w : World} {base : Nat} {v : Value} {l : List Dk} (h : w.ownsRow base 119 2 v l.length (flatD l)) (hl : l.length ≤ 2000000000000) (i : Nat) (hi : i < l.length) :
    Calls Tryz.prog 136 #[v, .int .i64 i] w fun e w' => ∃ v', e = .returned v' ∧ w'.ownsRow w.heap.size 119 2 v' (withoutL l i).length (flatD (withoutL l i)) ∧ Below w.heap.size w w' := by
  obtain ⟨g, cap, rfl, hgl, hcap, hmx, hcc⟩ : ∃ g cap, v = .slice (some ⟨g, 0, none⟩) l.length cap ∧ g < w.heap.size ∧ l.length ≤ cap ∧ cap ≤ maxLen ∧ ∀ j u, (flatD l)[j]? = some u → w.cell? ⟨g, j, none⟩ = some u := by
    have hcc := fun g => h.cells (g := g)
    rcases h.2 with ⟨rfl, h0⟩ | ⟨g, cap, cur, rfl, _, hb, hcap, hm, _⟩
    · omega
    · refine ⟨g, cap, rfl, (Array.getElem?_eq_some_iff.1 hb).1, hcap, hm, fun j u hu => ?_⟩
      have := hcc g rfl j u hu
      rwa [Addr.add_lit, Nat.zero_add] at this
  unfold maxLen at hmx
  obtain ⟨i0, hin, z0, z1, z2⟩ := info_parts info84
  have hrow0 := World.ownsRow_nil w w.heap.size 119 2
  have n1 : (flatD (l.take i)).length = i * 2 := by rw [flatD_len, List.length_take, Nat.min_eq_left (by omega)]
  have hn1 : ∀ j u, (flatD (l.take i))[j]? = some u → w.cell? ((⟨g, 0, none⟩ : Addr).add j) = some u := by
    intro j u hu
    rw [Addr.add_lit, Nat.zero_add]
    refine hcc j u ?_
    rw [flatD_take, List.getElem?_take] at hu
    split at hu
    · exact hu
    · cases hu
  have n2 : (flatD (l.drop (i + 1))).length = (l.length - (i + 1)) * 2 := by rw [flatD_len, List.length_drop]
  have HCC : Hid (∀ j u, (flatD (l.drop (i + 1)))[j]? = some u → w.cell? ⟨g, (i + 1) * 2 + j, none⟩ = some u) := by
    intro j u hu
    refine hcc _ u ?_
    rw [flatD_drop, List.getElem?_drop] at hu
    exact hu
  have o1 := one_flat (l.take i)
  have o2 := one_flat (l.drop (i + 1))
  have h63 : 0 + i ≤ maxLen := by unfold maxLen; omega
  have hby : (0 + i) * 24 ≤ 140737488355328 := by omega
  have h63b : i + (l.length - (i + 1)) ≤ maxLen := by unfold maxLen; omega
  have hbyb : (i + (l.length - (i + 1))) * 24 ≤ 140737488355328 := by omega
  have hia : ((i : Int) ≤ (cap : Int)) := by omega
  have hib : ((i : Int) + 1 ≤ (l.length : Int)) := by omega
  clear h hcc
  by_cases hce : cap = i + 1
  · subst hce
    go_enter Tryz.func136, Tryz.ntmps136
    go_upto_region 3 with (first
      | (at_builtin; refine wpList_append_own _ rfl _ _ 115 rfl w.heap.size 119 i0 (.agg #[.string ⟨#[]⟩, .int .i64 0]) 2 24 Tryz.underlying115 hin z0 z1 z2 rfl (by decide) _ _ _ rfl hrow0 ⟨g, 0, none⟩ i (i + 1) (flatD (l.take i)) rfl n1 hn1 o1 h63 hby (Nat.le_refl _) ?_; intro va wa howna hga hnila; go_frame)
      | go_in)
    have hba : Below w.heap.size w wa := (Below.refl _ _).grown hga (Nat.le_refl _) (fun j hj => by cases hj)
    have hsz := hba.size
    have hn2 : ∀ j u, ([] : List Value)[j]? = some u → wa.cell? ((⟨g, 0, none⟩ : Addr).add j) = some u := fun j u hu => by simp at hu
    have o3 : ∀ u ∈ ([] : List Value), u.oneCell' = true := fun u hu => by simp at hu
    have h63c : i + 0 ≤ maxLen := by unfold maxLen; omega
    have hbyc : (i + 0) * 24 ≤ 140737488355328 := by omega
    have HBA : Hid (Below w.heap.size w wa) := hba
    simp only [Nat.zero_add, List.nil_append] at howna
    have HOA : Hid (∀ j, va.ownBlock = some j → w.heap.size ≤ j) := fun j e => (howna.lt j e).1
    clear hba
    go_wp2_with (first
      | (at_builtin; refine wpList_append_own _ rfl _ _ 115 rfl w.heap.size 119 i0 (.agg #[.string ⟨#[]⟩, .int .i64 0]) 2 24 Tryz.underlying115 hin z0 z1 z2 rfl (by decide) _ _ _ rfl howna ⟨g, 0, none⟩ 0 0 [] rfl rfl hn2 o3 h63c hbyc hsz ?_; intro vb wb hownb hgb hnilb; go_frame)
      | go_in)
    go_ret
    refine ⟨vb, rfl, ?_, HBA.out.grown hgb HBA.out.size (fun j e => HOA.out j e)⟩
    unfold withoutL
    rw [List.drop_of_length_le (by omega), List.append_nil, List.length_take, Nat.min_eq_left (by omega)]
    simpa using hownb
  · have hce' : ¬ (cap = i + 1) := hce
    go_enter Tryz.func136, Tryz.ntmps136
    go_upto_region 3 with (first
      | (at_builtin; refine wpList_append_own _ rfl _ _ 115 rfl w.heap.size 119 i0 (.agg #[.string ⟨#[]⟩, .int .i64 0]) 2 24 Tryz.underlying115 hin z0 z1 z2 rfl (by decide) _ _ _ rfl hrow0 ⟨g, 0, none⟩ i cap (flatD (l.take i)) rfl n1 hn1 o1 h63 hby (Nat.le_refl _) ?_; intro va wa howna hga hnila; go_frame)
      | go_in)
    have hba : Below w.heap.size w wa := (Below.refl _ _).grown hga (Nat.le_refl _) (fun j hj => by cases hj)
    have hsz := hba.size
    have hn2 : ∀ j u, (flatD (l.drop (i + 1)))[j]? = some u → wa.cell? ((⟨g, (i + 1) * 2, none⟩ : Addr).add j) = some u := by
      intro j u hu
      rw [Addr.add_lit]
      exact (hba.cell (p := ⟨g, (i + 1) * 2 + j, none⟩) hgl).trans (HCC.out j u hu)
    have HBA : Hid (Below w.heap.size w wa) := hba
    simp only [Nat.zero_add, List.nil_append] at howna
    have HOA : Hid (∀ j, va.ownBlock = some j → w.heap.size ≤ j) := fun j e => (howna.lt j e).1
    clear hba
    go_wp2_with (first
      | (at_builtin; refine wpList_append_own _ rfl _ _ 115 rfl w.heap.size 119 i0 (.agg #[.string ⟨#[]⟩, .int .i64 0]) 2 24 Tryz.underlying115 hin z0 z1 z2 rfl (by decide) _ _ _ rfl howna ⟨g, (i + 1) * 2, none⟩ (l.length - (i + 1)) (cap - (i + 1)) (flatD (l.drop (i + 1))) rfl n2 hn2 o2 h63b hbyb hsz ?_; intro vb wb hownb hgb hnilb; go_frame)
      | go_in)
    go_ret
    refine ⟨vb, rfl, ?_, HBA.out.grown hgb HBA.out.size (fun j e => HOA.out j e)⟩
    unfold withoutL
    rw [flatD_append, List.length_append, List.length_take, List.length_drop, Nat.min_eq_left (by omega)]
    exact hownb

end Go.Proofs.YtdgfjneapialdaaGreatDoor
namespace Go.Proofs.YtdgfjneapialdaaGreatDoor
open Go Go.RowKit Go.Maps Go.Lib Go.Sort

/-- The least one first, then the others likewise. -/
inductive Sel : List Dk → List Dk → Prop
  | nil : Sel [] []
  | cons {l t : List Dk} (i : Nat) (hi : i < l.length) (hm : ∀ j (hj : j < l.length), ¬ ltP l[j] l[i]) (h : Sel (withoutL l i) t) : Sel l (l[i] :: t)

theorem withoutL_len (l : List Dk) (i : Nat) (hi : i < l.length) : (withoutL l i).length + 1 = l.length := by
  unfold withoutL
  rw [List.length_append, List.length_take, List.length_drop]
  omega
theorem own_drewN {w : World} {base : Nat} {e : TypeId} {size : Nat} {v : Value} {n : Nat} {xs : List Value} (h : w.ownsRow base e size v n xs) (m : Nat) : (w.drewN m).ownsRow base e size v n xs := own_keep h (fun _ _ => rfl)

section
variable {C : Nat → Prop} {w : World} {rb : Nat} {v1 v2 v3 v4 v5 : Value} {r : RS}

set_option maxRecDepth 100000 in
set_option maxHeartbeats 1000000 in
theorem rtold_any (h : IsR C w rb v1 v2 v3 v4 v5 r) (hl4 : r.dues.length ≤ 1999999999999) :
    Calls Tryz.prog 82 #[.pointer (some ⟨rb, 0, none⟩)] w fun e w' => ∃ v' out, e = .returned (.tuple #[v1, v']) ∧ Sel r.dues out ∧ w'.ownsRow w.heap.size 119 2 v' out.length (flatD out) ∧ Below w.heap.size w w' := by
  have q4 := h.q4
  have hlt := h.lt
  have H : Hid (IsR C w rb v1 v2 v3 v4 v5 r) := h
  obtain ⟨ao1, cap1, e1⟩ := own_form h.o1
  obtain ⟨ao4, cap4, e4⟩ := own_form h.o4
  obtain ⟨i0, hi, z0, z1, z2⟩ := info_parts info84
  have HO4 : Hid (w.ownsRow 0 119 2 v4 r.dues.length (flatD r.dues)) := h.o4
  clear h
  subst e1 e4
  go_enter Tryz.func82, Tryz.ntmps82
  go_wp2
  go_loopw [4, 5, 6] (fun vo vr _ wr => ∃ (out rest : List Dk), wr.ownsRow w.heap.size 119 2 vo out.length (flatD out) ∧ wr.ownsRow 0 119 2 vr rest.length (flatD rest) ∧ Hid (∀ k, vo.ownBlock = some k → vr.ownBlock ≠ some k) ∧ Hid (∀ t, Sel rest t → Sel r.dues (out ++ t)) ∧ Hid (out.length + rest.length ≤ 1999999999999) ∧ Hid (Below w.heap.size w wr)) (fun _ vr _ _ => match vr with | .slice _ n _ => n | _ => 0)
  case atStart => exact ⟨[], r.dues, ⟨rfl, Or.inl ⟨rfl, rfl⟩⟩, HO4.out, (fun k e => by cases e), (fun t ht => ht), by show 0 + _ ≤ _; omega, Below.refl _ _⟩
  case round =>
    obtain ⟨out, rest, hout, hrest, HD, HS, HL, HB⟩ := hrel
    obtain ⟨ad, cap, e5, hcap, had⟩ := row_form2 hrest
    subst e5
    have hL := HL.out
    have q1 : wr.cell? ⟨rb, 1, none⟩ = some (.slice ao1 r.row.length cap1) := (HB.out.cell (p := ⟨rb, 1, none⟩) hlt).trans H.out.q1
    have hrw : rb < wr.heap.size := by have := HB.out.size; omega
    by_cases hpos : 0 < rest.length
    · obtain ⟨g, rfl, hgl, hcc⟩ := had hpos
      have hgt : decide (((rest.length : Nat) : Int) > 0) = true := decide_eq_true (by omega)
      have hf := first_any hrest (by omega)
      have HRe : Hid (wr.ownsRow 0 119 2 (.slice (some ⟨g, 0, none⟩) rest.length cap) rest.length (flatD rest)) := hrest
      have HOu : Hid (wr.ownsRow w.heap.size 119 2 u4 out.length (flatD out)) := hout
      have HCC : Hid (∀ j (hj : j < rest.length), wr.cell? ⟨g, j * 2, none⟩ = some (.string (bk rest[j].1)) ∧ wr.cell? ⟨g, j * 2 + 1, none⟩ = some (.int .i64 rest[j].2)) := hcc
      clear had hcc hrest hout
      go_wp2_with fail
      refine hf.mono ?_
      rintro e w2 ⟨bb, rfl, hbest, nn, rfl⟩
      rcases hbest with ⟨h0, _⟩ | ⟨b, hbl, _, rfl, hmin⟩
      · omega
      · obtain ⟨hx0, hx1⟩ := HCC.out b hbl
        have HMin : Hid (∀ i (hi : i < rest.length), ¬ ltP rest[i] rest[b]) := fun i hi => hmin i hi hi
        have hblt : ((b : Int) < (rest.length : Int)) := by omega
        obtain ⟨xk, hxk⟩ : ∃ xk, xk = bk rest[b].1 := ⟨_, rfl⟩
        obtain ⟨xt, hxt⟩ : ∃ xt, xt = rest[b].2 := ⟨_, rfl⟩
        rw [← hxk] at hx0
        rw [← hxt] at hx1
        have HXK : Hid (xk = bk rest[b].1) := hxk
        have HXT : Hid (xt = rest[b].2) := hxt
        have hrow4 := (own_drewN HOu.out nn).alloc (.cells #[.string xk, .int .i64 xt] 119)
        have hone := one_two xk xt
        have h63 : out.length + 1 ≤ maxLen := by unfold maxLen; omega
        have hby : (out.length + 1) * 24 ≤ 140737488355328 := by omega
        have hbs : w.heap.size ≤ ((wr.drewN nn).alloc (.cells #[.string xk, .int .i64 xt] 119)).heap.size := by
          have := HB.out.size
          show w.heap.size ≤ (wr.alloc (.cells #[.string xk, .int .i64 xt] 119)).heap.size
          simp
          omega
        have hnews : ∀ j u, [Value.string xk, .int .i64 xt][j]? = some u → ((wr.drewN nn).alloc (.cells #[.string xk, .int .i64 xt] 119)).cell? ((⟨wr.heap.size, 0, none⟩ : Addr).add j) = some u := cell_two_new (wr.drewN nn) _ _ _
        clear hxk hxt hf hmin HCC
        go_upto_region 6 with (first
          | (at_builtin; refine wpList_append_own _ rfl _ _ 115 rfl w.heap.size 119 i0 (.agg #[.string ⟨#[]⟩, .int .i64 0]) 2 24 Tryz.underlying115 hi z0 z1 z2 rfl (by decide) _ _ _ rfl hrow4 ⟨wr.heap.size, 0, none⟩ 1 1 [.string xk, .int .i64 xt] rfl rfl hnews hone h63 hby hbs ?_; intro va wa howna hga hnila; go_frame)
          | go_in)
        have hrestA : wa.ownsRow 0 119 2 (.slice (some ⟨g, 0, none⟩) rest.length cap) rest.length (flatD rest) :=
          ((own_drewN HRe.out nn).alloc (.cells #[.string xk, .int .i64 xt] 119)).kept hga (Or.inr (fun e => HD.out g e.symm rfl))
        have hwo := without_any hrestA (by omega) b hbl
        have HBA : Hid (Below w.heap.size w wa) := (belowAl (belowDN HB.out nn) _).grown hga (belowAl (belowDN HB.out nn) _).size (fun j e => (hrow4.lt j e).1)
        have HOA : Hid (wa.ownsRow w.heap.size 119 2 va (out ++ [rest[b]]).length (flatD (out ++ [rest[b]]))) := by
          unfold Hid
          rw [flatD_snoc, List.length_append, show encD rest[b] = [Value.string xk, .int .i64 xt] by rw [encD, enc_bk, ← HXK.out, ← HXT.out]]
          exact howna
        clear hrestA howna hga hnila hrow4 hnews hbs
        go_wp2_with fail
        refine hwo.mono ?_
        rintro e w3 ⟨vr, rfl, hrest3, hb3⟩
        have hwl := withoutL_len rest b hbl
        have HB3 : Hid (Below w.heap.size w w3) := HBA.out.trans (hb3.mono HBA.out.size)
        have HO3 : Hid (w3.ownsRow w.heap.size 119 2 va (out ++ [rest[b]]).length (flatD (out ++ [rest[b]]))) := own_keep HOA.out (fun k e => hb3.block k (own_lt HOA.out e))
        have HR3 : Hid (w3.ownsRow 0 119 2 vr (withoutL rest b).length (flatD (withoutL rest b))) := own_mono hrest3 (Nat.zero_le _)
        have HD3 : Hid (∀ k, va.ownBlock = some k → vr.ownBlock ≠ some k) := fun k e e' => by
          have h1 := own_lt HOA.out e
          have h2 := (hrest3.lt k e').1
          omega
        obtain ⟨ao3, cap3, e3⟩ := own_form hrest3
        subst e3
        clear hrest3 hb3 hwo HOA HBA
        have HWL : Hid ((withoutL rest b).length + 1 = rest.length) := hwl
        clear hwl
        go_wp2
        go_roundw
        case rel =>
          refine ⟨out ++ [rest[b]], withoutL rest b, HO3.out, HR3.out, HD3, fun t ht => ?_, ?_, HB3⟩
          · rw [List.append_assoc]
            exact HS.out _ (Sel.cons b hbl (fun j hj => HMin.out j hj) ht)
          · have := HWL.out
            show (out ++ [rest[b]]).length + _ ≤ _
            rw [List.length_append, List.length_singleton]
            omega
        case measure =>
          have := HWL.out
          show (withoutL rest b).length < rest.length
          omega
    · have hgt : decide (((rest.length : Nat) : Int) > 0) = false := decide_eq_false (by omega)
      have hr0 : rest = [] := List.length_eq_zero_iff.1 (by omega)
      have HSo : Hid (Sel r.dues out) := by
        have := HS.out [] (by rw [hr0]; exact Sel.nil)
        rwa [List.append_nil] at this
      have HOu : Hid (wr.ownsRow w.heap.size 119 2 u4 out.length (flatD out)) := hout
      clear had hout hrest hr0 HS HD
      go_wp2
      go_ret2
      exact ⟨_, out, rfl, HSo.out, HOu.out, HB.out⟩
end

end Go.Proofs.YtdgfjneapialdaaGreatDoor
