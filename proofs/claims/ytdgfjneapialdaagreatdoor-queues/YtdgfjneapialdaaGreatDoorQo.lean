import Derived.Test.YtdgfjneapialdaaGreatDoorQn
namespace Go.Proofs.YtdgfjneapialdaaGreatDoor
open Go Go.RowKit Go.Maps Go.Lib Go.Sort

theorem clone_row {w : World} {rv : Value} {xs : List ByteArray} (h : RowAt w 9 rv xs) (hl : xs.length ≤ 1000000000000) :
    Calls Tryz.prog 139 #[rv] w fun e w' => ∃ v, e = .returned v ∧ w'.ownsRow w.heap.size 9 1 v xs.length (xs.map Value.string) ∧ Below w.heap.size w w' := by
  rcases h with ⟨rfl, rfl⟩ | ⟨g, off, cap, cur, rfl, hb, _, _, _, hc⟩
  · refine (Tryz.slices_Clone_string_nil 0 0 w).mono ?_
    rintro e w' ⟨rfl, rfl⟩
    exact ⟨_, rfl, World.ownsRow_nil _ _ _ _, Below.refl _ _⟩
  · refine (Tryz.slices_Clone_string g off xs.length cap xs w (Nat.le_refl _) (by omega) (fun j hj => ?_)).mono ?_
    · have := hc j xs[j] (by simp [hj])
      simp only [World.cell?, hb]
      simp [this, hj]
    · rintro e w' ⟨v, rfl, ho, _, hbw⟩
      rw [List.take_length] at ho
      exact ⟨v, rfl, ho, hbw⟩

/-- What a walk over the map of what is due has collected. -/
structure CollD (f : ByteArray → Option Int) (left : Lit → Bool) (l : List Dk) : Prop where
  snd : ∀ x ∈ l, f (bk x.1) = some x.2 ∧ left (.string x.1) = false
  cmp : ∀ b c, f (bk b) = some c → left (.string b) = true ∨ (b, c) ∈ l
  nd : l.Pairwise fun a b => a.1 ≠ b.1
theorem CollD.start {f : ByteArray → Option Int} {left : Lit → Bool} (h : ∀ b c, f (bk b) = some c → left (.string b) = true) : CollD f left [] :=
  ⟨fun _ h => by simp at h, fun b c hb => Or.inl (h b c hb), List.Pairwise.nil⟩
theorem CollD.step {f : ByteArray → Option Int} {left : Lit → Bool} {l : List Dk} (h : CollD f left l) {b : List UInt8} {c : Int} (hb : f (bk b) = some c) (hl : left (.string b) = true) : CollD f (fun z => left z && !z.sameKey (.string b)) (l ++ [(b, c)]) := by
  refine ⟨?_, ?_, ?_⟩
  · intro x hx
    rcases List.mem_append.1 hx with hx | hx
    · obtain ⟨h1, h2⟩ := h.snd x hx
      exact ⟨h1, by simp [h2]⟩
    · simp at hx
      subst hx
      exact ⟨hb, strike_same b⟩
  · intro x d hx
    by_cases e : x = b
    · subst e
      rw [hb] at hx
      cases hx
      exact Or.inr (by simp)
    · exact (h.cmp x d hx).imp (fun h1 => by show (left (.string x) && _) = true; rw [strike_other e]; exact h1) (fun h1 => by simp [h1])
  · rw [List.pairwise_append]
    refine ⟨h.nd, by simp, fun x hx y hy => ?_⟩
    simp at hy
    subst hy
    intro e
    have := (h.snd x hx).2
    rw [e, hl] at this
    cases this

theorem owns_mono {w : World} {base base' : Nat} {e : TypeId} {size : Nat} {v : Value} {n : Nat} {xs : List Value} (h : w.ownsRow base e size v n xs) (hb : base' ≤ base) : w.ownsRow base' e size v n xs :=
  ⟨h.1, h.2.imp id fun ⟨g, cap, cur, h1, h2, h3⟩ => ⟨g, cap, cur, h1, Nat.le_trans hb h2, h3⟩⟩
theorem info53 : (Tryz.prog.info? 119).map (fun i => (i.zero, i.size, i.bytes)) = some (some (.agg #[.string ⟨#[]⟩, .int .i64 0]), 2, 24) := by kernel_rfl
theorem cell_two_new (w : World) (x0 x1 : Value) (t : TypeId) : ∀ j u, [x0, x1][j]? = some u → (w.alloc (.cells #[x0, x1] t)).cell? ((⟨w.heap.size, 0, none⟩ : Addr).add j) = some u := by
  intro j u h
  have e : (⟨w.heap.size, 0, none⟩ : Addr).add j = ⟨w.heap.size, j, none⟩ := by
    unfold Addr.add
    split
    · rename_i h0
      rw [h0]
    · simp
  rw [e]
  simp only [World.cell?, (MapKept.heap_alloc w _).1]
  simpa using h

section
variable {C : Nat → Prop} {U : List ByteArray} {w : World} {qb pm dm fm : Nat} {rv : Value} {s : QS}

set_option maxRecDepth 100000 in
set_option maxHeartbeats 1000000 in
theorem told_any (h : IsQ C U w qb pm dm fm rv s) (hU : U.length ≤ 1000000000000) (hO : QOk U s) :
    Calls Tryz.prog 81 #[.pointer (some ⟨qb, 0, none⟩)] w fun e w' => ∃ v1 v2 l, e = .returned (.tuple #[v1, v2]) ∧ w'.ownsRow w.heap.size 9 1 v1 s.row.length (s.row.map Value.string) ∧ w'.ownsRow w.heap.size 119 2 v2 l.length (flatD l) ∧
      CollD s.du (fun _ => false) l ∧ (l.Pairwise fun a b => ltOf cfD b a = false) ∧ l.length ≤ U.length ∧ Below w.heap.size w w' := by
  have c3 := h.c3
  have hqlt := h.lt
  have HQ : Hid (IsQ C U w qb pm dm fm rv s) := h
  have HC1 : Hid (w.cell? ⟨qb, 1, none⟩ = some rv) := h.c1
  have HRL : Hid (s.row.length ≤ 1000000000000) := Nat.le_trans hO.len hU
  obtain ⟨D, hmap, hkeys, hr⟩ := h.md
  have HR : Hid (∀ s', match s.du s' with | none => has D (slit s') = false | some v => ∀ z, D.atKey (slit s') z = .lit (.int .i64 v)) := hr
  have HMS : Hid (Maps.size D ≤ U.length) := hmap.size_le
  obtain ⟨i0, hi, z0, z1, z2⟩ := info_parts info53
  obtain ⟨ao, cap0, hrv⟩ := h.row.form
  clear h hr hkeys hO
  go_enter Tryz.func81, Tryz.ntmps81
  go_wp2_with (first
    | (at_range; refine wpList_range_own _ rfl _ 181 rfl 9 3 (string_keyed und9) und40 (plainElem Tryz.prog 3) dm U.length D rfl hmap ?_; intro w0 hrg0 hg0 hs0)
    | go_in)
  go_frame
  have hb0 : Below w.heap.size w w0 := (Below.refl w.heap.size w).grown hg0 (Nat.le_refl _) (fun j hj => by cases hj)
  have HDM : Hid (dm < w.heap.size) := hmap.lt
  clear hg0 hmap c3
  have HRV : Hid (rv = .slice ao s.row.length cap0) := hrv
  clear hrv
  go_loopw [4] (fun v wr => ∃ (left : Lit → Bool) (cnt : Nat) (l : List Dk), wr.ranges Tryz.prog 9 (plainElem Tryz.prog 3) dm w.heap.size U.length D left cnt ∧ Hid (l.length + cnt ≤ U.length) ∧
      wr.ownsRow (w.heap.size + 1) 119 2 v l.length (flatD l) ∧ Hid (CollD s.du left l) ∧ Below w.heap.size w wr ∧ Hid (w.heap.size + 1 ≤ wr.heap.size))
    (fun _ wr => wr.rangeLeft dm w.heap.size)
  case atStart =>
    exact ⟨_, _, [], hrg0, by have := HMS.out; show 0 + _ ≤ _; omega, ⟨rfl, Or.inl ⟨rfl, rfl⟩⟩, CollD.start (fun b c hb => has_of_f HR.out hb), hb0, by show _ ≤ _; omega⟩
  case round =>
    obtain ⟨left, cnt, l, hrg, Hln, hrow, HCo, hnx, Hws⟩ := hrel
    go_wp2_with (first
      | (at_next; refine wpList_next_ranges _ rfl _ rfl 9 (string_keyed und9) (plainElem Tryz.prog 3) (fun x : ByteArray => .string x) (fun c : Int => .int .i64 c) ?invK ?invV dm w.heap.size U.length _ _ _ rfl hrg ?_ ?_)
      | go_in)
    · intro key kl hk
      obtain ⟨k, rfl, _⟩ := keyOf9_inv hk
      exact ⟨k, rfl⟩
    · intro v y hv
      obtain ⟨c, rfl, _⟩ := plainElem_int_inv und3 hv
      exact ⟨c, rfl⟩
    · intro hc0 hl0
      have hCo' : CollD s.du (fun _ => false) l := by
        have e : left = fun _ => false := funext hl0
        have := HCo.out
        rw [e] at this
        exact this
      have HCD : Hid (CollD s.du (fun _ => false) l) := hCo'
      clear hCo' hl0 hc0
      rcases hrow.2 with ⟨rfl, hl00⟩ | ⟨g, cap, cur, rfl, hbase, hb, hc1, hc2, hc3, hc4⟩
      · have hle : l = [] := List.length_eq_zero_iff.1 hl00
        subst hle
        have hs := sort_due_none none 0 wr
        have c1r : wr.cell? ⟨qb, 1, none⟩ = some rv := (hnx.cell (p := ⟨qb, 1, none⟩) hqlt).trans HC1.out
        have hcl := clone_row (HQ.out.below hnx).row HRL.out
        rw [HRV.out] at c1r hcl
        have HBW : Hid (Below w.heap.size w wr) := hnx
        clear hrow hl00 hnx
        go_wp2_with fail
        refine hs.mono ?_
        rintro e w' ⟨rfl, rfl⟩
        go_wp2_with fail
        refine hcl.mono ?_
        rintro e w2 ⟨v, rfl, ho, hbw⟩
        go_wp2
        go_ret2
        exact ⟨v, .slice none 0 0, [], rfl, owns_mono ho HBW.out.size, ⟨rfl, Or.inl ⟨rfl, rfl⟩⟩, HCD.out, List.Pairwise.nil, Nat.zero_le _, HBW.out.trans (hbw.mono HBW.out.size)⟩
      · have hgl : g < wr.heap.size := (Array.getElem?_eq_some_iff.1 hb).1
        have hsz : l.toArray.size < 4611686018427387904 := by have := Hln.out; simp; omega
        have hs := sort_due g cap l.toArray wr (holdsKD_of l hb hc4) hgl hsz
        simp only [List.size_toArray] at hs
        go_wp2_with fail
        refine hs.mono ?_
        rintro e w3 ⟨rfl, d', nn, os, hp, hds, hsrt, hw3⟩
        have hrow3 := ownsRow_sortedKD (n := nn) (os := os) (base := w.heap.size) (l := l) (d := d') (by simpa using hds) (by omega) hb hc1 hc2 hc3
        have hg3 := grownBy_sortKD (w := wr) (g := g) (n := nn) (os := os) d'
        rw [← hw3] at hrow3 hg3
        have hnx3 : Below w.heap.size w w3 := hnx.grown hg3 hnx.size (fun j hj => by cases hj; omega)
        have c1r : w3.cell? ⟨qb, 1, none⟩ = some rv := (hnx3.cell (p := ⟨qb, 1, none⟩) hqlt).trans HC1.out
        have hcl := clone_row (HQ.out.below hnx3).row HRL.out
        rw [HRV.out] at c1r hcl
        have HBW : Hid (Below w.heap.size w w3) := hnx3
        have HR3 : Hid (w3.ownsRow w.heap.size 119 2 (.slice (some ⟨g, 0, none⟩) l.length cap) d'.toList.length (flatD d'.toList)) := hrow3
        have HP : Hid (d'.toList.Perm l) := (by simpa using hp : d'.toList.Perm l)
        have HSR : Hid (d'.toList.Pairwise fun a b => ltOf cfD b a = false) := hsrt
        have HGL : Hid (g < w3.heap.size) := Nat.lt_of_lt_of_le hgl hg3.size
        clear hw3 hs hrow3 hg3 hnx3 hrow hb hc1 hc2 hc3 hc4 hbase hrg hrg0 hnx hgl hsz hp hsrt hds
        go_wp2_with fail
        refine hcl.mono ?_
        rintro e w4 ⟨v, rfl, ho, hbw⟩
        go_wp2
        go_ret2
        refine ⟨v, _, d'.toList, rfl, owns_mono ho HBW.out.size, ?_, ⟨fun x hx => HCD.out.snd x (HP.out.mem_iff.1 hx), fun b c hb => (HCD.out.cmp b c hb).imp id (fun hm => HP.out.mem_iff.2 hm), (HP.out.pairwise_iff (fun {_ _} h => Ne.symm h)).2 HCD.out.nd⟩, HSR.out, ?_, HBW.out.trans (hbw.mono HBW.out.size)⟩
        · exact HR3.out.kept (row := none) ⟨hbw.os, hbw.tape, hbw.output, hbw.size, fun k hk _ => hbw.block k hk⟩ (Or.inr (by simp [Value.ownBlock]))
        · have := HP.out.length_eq
          have := Hln.out
          omega
    · intro k' c kl yd yp w2 cnt2 hkey hlk hv hat hrg2 hlt hg2 hs2 hen
      obtain ⟨k1, e1, rfl, hk8⟩ := keyOf9_inv hkey
      simp only [Value.string.injEq] at e1
      subst e1
      obtain ⟨c1, e2, e3, _⟩ := plainElem_int_inv und3 hv
      simp only [Value.int.injEq, true_and] at e2
      subst e2
      have HF : Hid (s.du k' = some c) := f_of_at HR.out (fun z => (hat z).trans (congrArg Prod.fst e3))
      have hrow2 := hrow.kept hg2 (Or.inr (row_ne_iter hrow hrg).symm)
      have hnx2 : Below w.heap.size w w2 := hnx.grown hg2 hnx.size (fun j hj => by cases hj; exact Nat.le_refl _)
      have HS2 : Hid (w2.heap.size = wr.heap.size) := hs2
      clear hs2 hat hv hkey e3
      have hrow4 := hrow2.alloc (.cells #[.string k', .int .i64 c] 119)
      have hone : ∀ u ∈ [Value.string k', .int .i64 c], u.oneCell' = true := by
        intro u hu
        simp only [List.mem_cons, List.not_mem_nil, or_false] at hu
        rcases hu with rfl | rfl <;> rfl
      have h63 : l.length + 1 ≤ maxLen := by have := Hln.out; unfold maxLen; omega
      have hby : (l.length + 1) * 24 ≤ 140737488355328 := by have := Hln.out; omega
      have hbs : w.heap.size + 1 ≤ (w2.alloc (.cells #[.string k', .int .i64 c] 119)).heap.size := by have := Hws.out; have := HS2.out; simp; omega
      go_wp2_with (first
        | (at_builtin; refine wpList_append_own _ rfl _ _ 115 rfl (w.heap.size + 1) 119 i0 (.agg #[.string ⟨#[]⟩, .int .i64 0]) 2 24 Tryz.underlying115 hi z0 z1 z2 rfl (by decide) _ _ _ rfl hrow4 ⟨w2.heap.size, 0, none⟩ 1 1 [.string k', .int .i64 c] rfl rfl (cell_two_new _ _ _ _) hone h63 hby hbs ?_; intro v' w3 hown' hg3 hnil3; go_frame)
        | go_in)
      have hrg4 := hrg2.alloc (.cells #[.string k', .int .i64 c] 119)
      have hrg3 := hrg4.kept hg3 (row_ne_low hrow4 (by have := HDM.out; omega)) (row_ne_iter hrow4 hrg4)
      go_roundw
      case rel =>
        refine ⟨_, cnt2, l ++ [(k'.data.toList, c)], hrg3, ?_, ?_, ?_, ?_, ?_⟩
        · have := Hln.out; show (l ++ [(k'.data.toList, c)]).length + _ ≤ _; simp; omega
        · rw [flatD_snoc, show encD (k'.data.toList, c) = [Value.string k', .int .i64 c] by rw [encD, enc_bk, bk_data]]
          simpa using hown'
        · exact HCo.out.step (b := k'.data.toList) (by rw [bk_data, HF.out]) hlk
        · exact (belowAl hnx2 _).grown hg3 (belowAl hnx2 _).size (fun j hj => by have := (hrow4.lt j hj).1; omega)
        · have := hg3.size
          have := Hws.out
          have := HS2.out
          show _ ≤ _
          simp at *
          omega
      case measure => rw [hrg3.left_eq, hrg.left_eq]; exact hlt
end

end Go.Proofs.YtdgfjneapialdaaGreatDoor
