import Derived.Test.YtdgfjneapialdaaGreatDoorTa
import Derived.Deep.DeepAppendWide
namespace Go.Proofs.YtdgfjneapialdaaGreatDoor.S
open Go Go.RowKit Go.Maps

section
variable {P : Program} (w : World)
/-- append onto an owned row, under growslice's own test: where the new slice lies. -/
theorem run_append_wide_lies (t ty : TypeId) (base : Nat) (e : TypeId) (i : TypeInfo) (z : Value) (size bytes : Nat) (ht : P.underlying t = some (.slice e)) (hi : P.info? e = some i) (hz : i.zero = some z)
    (hsize : i.size = size) (hby : i.bytes = bytes) (hzs : z.cells.size = size) (hsz : 0 < size)
    (v : Value) (n : Nat) (xs : List Value) (hown : w.ownsRow base e size v n xs)
    (ad : Addr) (m c : Nat) (news : List Value) (hl : news.length = m * size) (hnews : ∀ j u, news[j]? = some u → w.cell? (ad.add j) = some u) (h1 : ∀ u ∈ news, u.oneCell' = true)
    (hm : 0 < m) (h63 : n + m ≤ maxLen) (hbytes : ((n + m) + (n + m) / 4 + 192) * bytes ≤ 281474976710656) (hbase : base ≤ w.heap.size) :
    ∃ g cap w', (Builtin.append_ #[t, t] ty #[v, .slice (some ad) m c]).run P w = .ok (.slice (some ⟨g, 0, none⟩) (n + m) cap) w' ∧
      w'.ownsRow base e size (.slice (some ⟨g, 0, none⟩) (n + m) cap) (n + m) (xs ++ news) ∧ w.grownBy w' v.ownBlock ∧ (v.ownBlock = some g ∨ g = w.heap.size) ∧ g < w'.heap.size := by
  obtain ⟨v', w', hr, h2, h3, _⟩ := run_append_own_wide (P := P) w base t ty e i z size bytes ht hi hz hsize hby hzs hsz v n xs hown ad m c news hl hnews h1 h63 hbytes hbase
  obtain ⟨g, cap, rfl, _, hlt⟩ := h2.form (by omega)
  refine ⟨g, cap, w', hr, h2, h3, ?_, hlt⟩
  subst hsize
  subst hby
  have h64 : n + m ≤ 9223372036854775807 := by simp only [maxLen] at h63; omega
  rcases hown.2 with ⟨rfl, rfl⟩ | ⟨g0, cap0, cur, rfl, _, hg, hnc, hcm, hcs, htake⟩
  · have hr2 := run_append_nil (P := P) w t ty e i z ht hi hz ad m c news hl hnews hm (by omega) (Nat.le_trans (Nat.mul_le_mul_right _ (by omega)) hbytes)
    rw [hr] at hr2
    injection hr2 with e1 e2
    right
    simpa using (Value.slice.inj e1).1
  · by_cases hroom : n + m ≤ cap0
    · have hfit : n * i.size + news.length ≤ cur.size := by rw [hl, hcs, ← Nat.add_mul]; exact Nat.mul_le_mul_right _ hroom
      have hr2 := run_append_room (P := P) w t ty e i ht hi g0 n cap0 cur hg ad m c news hl hnews h1 hroom hfit
      rw [hr] at hr2
      injection hr2 with e1 e2
      left
      have := (Value.slice.inj e1).1
      simp only [Option.some.injEq, Addr.mk.injEq, and_true] at this
      rw [this]
      rfl
    · have hr2 := run_append_grow (P := P) w t ty e i z ht hi hz ⟨g0, 0, none⟩ n cap0 xs hown.1 (hown.cells (g := g0) rfl) ad m c news hl hnews (by omega) (by omega) (growslice_fits_wide (by omega) hbytes)
      rw [hr] at hr2
      injection hr2 with e1 e2
      right
      simpa using (Value.slice.inj e1).1

theorem wpList_append_wide_lies {ops : Array Oper} {rest : List Oper} {o : Oper} {a : Act} {Q : Exit → Act → World → Prop} (hgd : o.guard = none) (s x : Operand) (t : TypeId)
    (ho : o.op = .call { callee := .builtin .append, args := #[s, x], argTypes := #[t, t] })
    (base : Nat) (e : TypeId) (i : TypeInfo) (z : Value) (size bytes : Nat) (ht : P.underlying t = some (.slice e)) (hi : P.info? e = some i) (hz : i.zero = some z)
    (hsize : i.size = size) (hby : i.bytes = bytes) (hzs : z.cells.size = size) (hsz : 0 < size)
    (v : Value) (n : Nat) (xs : List Value) (hs : a.eval s = v) (hown : w.ownsRow base e size v n xs)
    (ad : Addr) (m c : Nat) (news : List Value) (hx : a.eval x = .slice (some ad) m c) (hl : news.length = m * size) (hnews : ∀ j u, news[j]? = some u → w.cell? (ad.add j) = some u) (h1 : ∀ u ∈ news, u.oneCell' = true)
    (hm : 0 < m) (h63 : n + m ≤ maxLen) (hbytes : ((n + m) + (n + m) / 4 + 192) * bytes ≤ 281474976710656) (hbase : base ≤ w.heap.size) (H : Nat) (hH : w.heap.size = H)
    (h : ∀ g cap w', w'.ownsRow base e size (.slice (some ⟨g, 0, none⟩) (n + m) cap) (n + m) (xs ++ news) → w.grownBy w' v.ownBlock → (v.ownBlock = some g ∨ g = H) → g < w'.heap.size → wpList P ops Q rest (a.put o.dst (.slice (some ⟨g, 0, none⟩) (n + m) cap)) w') :
    wpList P ops Q (o :: rest) a w := by
  refine wpList_plain hgd fun K hK => ?_
  obtain ⟨g, cap, w', hr, h2, h3, h4, h5⟩ := run_append_wide_lies (P := P) w t o.type base e i z size bytes ht hi hz hsize hby hzs hsz v n xs hown ad m c news hl hnews h1 hm h63 hbytes hbase
  unfold Oper.wp execOp
  simp only [ho, resolve, invoke, builtin, Sem.run_bind, Sem.run_pure, Result.andThen_ok, List.map_toArray, List.map_cons, List.map_nil, hs, hx, hr]
  subst hH
  exact hK _ _ (h g cap w' h2 h3 h4 h5)
end

theorem flatMap_put {α : Type} (enc : α → List Value) (c : Nat) (hc : ∀ x, (enc x).length = c) (hc0 : 0 < c) (L : List α) (k : Nat) (hk : k < L.length) (m : α) : logPut (L.flatMap enc) (k * c) (enc m) = (L.set k m).flatMap enc := by
  have hle : (k + 1) * c ≤ L.length * c := Nat.mul_le_mul_right _ hk
  rw [Nat.add_mul, Nat.one_mul] at hle
  apply List.ext_getElem?
  intro t
  rw [logPut_get _ _ _ _ (by rw [hc, flatMap_len enc c hc]; exact hle), hc]
  by_cases ht : t < L.length * c
  · obtain ⟨a, b, rfl, hb⟩ : ∃ a b, t = a * c + b ∧ b < c := ⟨t / c, t % c, by rw [Nat.mul_comm]; exact (Nat.div_add_mod t c).symm, Nat.mod_lt _ hc0⟩
    have ha : a < L.length := by
      rcases Nat.lt_or_ge a L.length with h | h
      · exact h
      · have := Nat.mul_le_mul_right c h
        omega
    rw [flatMap_get enc c hc (L.set k m) a b (by simpa using ha) hb, flatMap_get enc c hc L a b ha hb]
    by_cases e : a = k
    · subst e
      rw [if_pos (by omega), show a * c + b - a * c = b by omega]
      simp
    · rw [if_neg (fun h => by
        rcases Nat.lt_or_gt_of_ne e with h2 | h2
        · have := Nat.mul_le_mul_right c (show a + 1 ≤ k from h2)
          rw [Nat.add_mul] at this
          omega
        · have := Nat.mul_le_mul_right c (show k + 1 ≤ a from h2)
          rw [Nat.add_mul] at this
          omega)]
      rw [List.getElem_set, if_neg (fun h => e h.symm)]
  · rw [if_neg (by omega), List.getElem?_eq_none (by rw [flatMap_len enc c hc]; omega), List.getElem?_eq_none (by rw [flatMap_len enc c hc, List.length_set]; omega)]

/-- The object that marks the c-th list, and the event. -/
def mkO (c : Int) : Ob := ⟨0, ⟨#[]⟩, c, 0, 0, 0, 0, 0, false⟩
def mkE (c : Int) : Int × Ob := (0, mkO c)

def wArr (sh bo be : Value) : Array Value := #[sh, .slice none 0 0, .slice none 0 0, bo, be, .slice none 0 0, .slice none 0 0, .slice none 0 0, .slice none 0 0]
/-- The script's world in memory: its stores, and what its book keeps of objects and of events. -/
structure WIs (w : World) (wb : Nat) (sh bo be : Value) (os es : List Value) : Prop where
  blk : w.heap[wb]? = some (.cells (wArr sh bo be) 81 (0, 0))
  ow : w.ownsRow 0 44 1 bo os.length os
  od : w.ownsRow 0 139 1 be es.length es
/-- A list that the book has marked with c. -/
def KO (w : World) (B : Nat) (c : Int) (x : Value) : Prop := ∃ n, n ≤ 1000 ∧ w.ownsRow B 84 9 x n ((List.replicate n (mkO c)).flatMap fun o => o.arr.toList)
def KE (w : World) (B : Nat) (c : Int) (x : Value) : Prop := ∃ n, n ≤ 1000 ∧ w.ownsRow B 170 10 x n ((List.replicate n (mkE c)).flatMap evP)

section
variable {w w' : World} {wb : Nat} {sh bo be : Value} {os es : List Value}
theorem WIs.lt (h : WIs w wb sh bo be os es) : wb < w.heap.size := (Array.getElem?_eq_some_iff.1 h.blk).1
theorem WIs.p0 (h : WIs w wb sh bo be os es) : w.cell? ⟨wb, 0, none⟩ = some sh := by simp [World.cell?, h.blk, wArr]
theorem WIs.p3 (h : WIs w wb sh bo be os es) : w.cell? ⟨wb, 3, none⟩ = some bo := by simp [World.cell?, h.blk, wArr]
theorem WIs.p4 (h : WIs w wb sh bo be os es) : w.cell? ⟨wb, 4, none⟩ = some be := by simp [World.cell?, h.blk, wArr]
theorem WIs.fz (h : WIs w wb sh bo be os es) : ∀ o, w.frozen? ⟨wb, o, none⟩ = false := fun o => by simp [World.frozen?, h.blk]
theorem WIs.keep (h : WIs w wb sh bo be os es) (h0 : w'.heap[wb]? = w.heap[wb]?) (h1 : ∀ k, bo.ownBlock = some k → w'.heap[k]? = w.heap[k]?) (h2 : ∀ k, be.ownBlock = some k → w'.heap[k]? = w.heap[k]?) : WIs w' wb sh bo be os es :=
  ⟨h0.trans h.blk, own_keep h.ow h1, own_keep h.od h2⟩
theorem WIs.below (h : WIs w wb sh bo be os es) (k : Below w.heap.size w w') : WIs w' wb sh bo be os es :=
  h.keep (k.block _ h.lt) (fun i e => k.block i (own_lt h.ow e)) (fun i e => k.block i (own_lt h.od e))
theorem WIs.ne3 (h : WIs w wb sh bo be os es) : bo.ownBlock ≠ some wb := fun e => by
  obtain ⟨cur, hc⟩ := own_typ h.ow wb e
  exact ne_typ h.blk hc (by decide) rfl
theorem WIs.ne4 (h : WIs w wb sh bo be os es) : be.ownBlock ≠ some wb := fun e => by
  obtain ⟨cur, hc⟩ := own_typ h.od wb e
  exact ne_typ h.blk hc (by decide) rfl
theorem WIs.ne34 (h : WIs w wb sh bo be os es) : ∀ k, bo.ownBlock = some k → be.ownBlock ≠ some k := fun k e e' => by
  obtain ⟨cur, hc⟩ := own_typ h.ow k e
  obtain ⟨cur', hc'⟩ := own_typ h.od k e'
  exact ne_typ hc hc' (by decide) rfl
theorem WIs.set3 (h : WIs w wb sh bo be os es) (k : w.grownBy w' bo.ownBlock) {v' : Value} {l : List Value} (hr : w'.ownsRow 0 44 1 v' l.length l) : WIs (w'.setCell ⟨wb, 3, none⟩ v') wb sh v' be l es := by
  have e0 : w'.heap[wb]? = some (.cells (wArr sh bo be) 81 (0, 0)) := (k.block _ h.lt (fun e => h.ne3 e.symm)).trans h.blk
  have hd : w'.ownsRow 0 139 1 be es.length es := own_keep h.od (fun i e => k.block i (own_lt h.od e) (fun e' => h.ne34 i e'.symm e))
  have nb : ∀ {v : Value} {e : TypeId} {size n : Nat} {xs : List Value}, w'.ownsRow 0 e size v n xs → e ≠ 81 → (w'.setCell ⟨wb, 3, none⟩ v').ownsRow 0 e size v n xs := by
    intro v e size n xs ho hne
    refine own_keep ho (fun k hk => Below.heap_setCell _ _ _ _ ?_)
    obtain ⟨cur, hc⟩ := own_typ ho k hk
    exact ne_typ hc e0 hne
  exact ⟨by rw [heap_setCell_at e0]; simp [wArr], nb hr (by decide), nb hd (by decide)⟩
theorem WIs.set4 (h : WIs w wb sh bo be os es) (k : w.grownBy w' be.ownBlock) {v' : Value} {l : List Value} (hr : w'.ownsRow 0 139 1 v' l.length l) : WIs (w'.setCell ⟨wb, 4, none⟩ v') wb sh bo v' os l := by
  have e0 : w'.heap[wb]? = some (.cells (wArr sh bo be) 81 (0, 0)) := (k.block _ h.lt (fun e => h.ne4 e.symm)).trans h.blk
  have hd : w'.ownsRow 0 44 1 bo os.length os := own_keep h.ow (fun i e => k.block i (own_lt h.ow e) (fun e' => h.ne34 i e e'.symm))
  have nb : ∀ {v : Value} {e : TypeId} {size n : Nat} {xs : List Value}, w'.ownsRow 0 e size v n xs → e ≠ 81 → (w'.setCell ⟨wb, 4, none⟩ v').ownsRow 0 e size v n xs := by
    intro v e size n xs ho hne
    refine own_keep ho (fun k hk => Below.heap_setCell _ _ _ _ ?_)
    obtain ⟨cur, hc⟩ := own_typ ho k hk
    exact ne_typ hc e0 hne
  exact ⟨by rw [heap_setCell_at e0]; simp [wArr], nb hd (by decide), nb hr (by decide)⟩
/-- A row of another type than a list of lists and the world. -/
theorem WIs.row3 (h : WIs w wb sh bo be os es) (k : w.grownBy w' bo.ownBlock) (v' : Value) {b : Nat} {e : TypeId} {size n : Nat} {x : Value} {ys : List Value} (he : e ≠ 44) (he2 : e ≠ 81) (ho : w.ownsRow b e size x n ys) : (w'.setCell ⟨wb, 3, none⟩ v').ownsRow b e size x n ys := by
  refine own_keep ho (fun i hi => ?_)
  obtain ⟨cur, hc⟩ := own_typ ho i hi
  have hne : bo.ownBlock ≠ some i := fun e' => by
    obtain ⟨cur', hc'⟩ := own_typ h.ow i e'
    exact ne_typ hc hc' he rfl
  rw [Below.heap_setCell _ _ _ _ (ne_typ hc h.blk he2), k.block i (own_lt ho hi) (fun e' => hne e'.symm)]
theorem WIs.row4 (h : WIs w wb sh bo be os es) (k : w.grownBy w' be.ownBlock) (v' : Value) {b : Nat} {e : TypeId} {size n : Nat} {x : Value} {ys : List Value} (he : e ≠ 139) (he2 : e ≠ 81) (ho : w.ownsRow b e size x n ys) : (w'.setCell ⟨wb, 4, none⟩ v').ownsRow b e size x n ys := by
  refine own_keep ho (fun i hi => ?_)
  obtain ⟨cur, hc⟩ := own_typ ho i hi
  have hne : be.ownBlock ≠ some i := fun e' => by
    obtain ⟨cur', hc'⟩ := own_typ h.od i e'
    exact ne_typ hc hc' he rfl
  rw [Below.heap_setCell _ _ _ _ (ne_typ hc h.blk he2), k.block i (own_lt ho hi) (fun e' => hne e'.symm)]
/-- A row of objects or events may be written to. -/
theorem WIs.rowE (h : WIs w wb sh bo be os es) {b n size : Nat} {t : TypeId} {x : Value} {ys : List Value} (h1 : t ≠ 81) (h2 : t ≠ 44) (h3 : t ≠ 139) (ho : w.ownsRow b t size x n ys) (k : w.grownBy w' x.ownBlock) : WIs w' wb sh bo be os es := by
  have q : ∀ {i : Nat} {e : TypeId} {cur : Array Value}, w.heap[i]? = some (.cells cur e (0, 0)) → t ≠ e → w'.heap[i]? = w.heap[i]? := by
    intro i e cur hc he
    refine k.block i (Array.getElem?_eq_some_iff.1 hc).1 (fun e' => ?_)
    obtain ⟨cur', hc'⟩ := own_typ ho i e'.symm
    exact ne_typ hc' hc he rfl
  exact h.keep (q h.blk h1) (fun i e => (own_typ h.ow i e).elim fun cur hc => q hc h2) (fun i e => (own_typ h.od i e).elim fun cur hc => q hc h3)
end

theorem grown_trans {w w1 w2 : World} {g : Nat} (h : w.grownBy w1 (some g)) (k : w1.grownBy w2 (some g)) : w.grownBy w2 (some g) :=
  ⟨k.os.trans h.os, k.tape.trans h.tape, k.output.trans h.output, Nat.le_trans h.size k.size, fun b hb hne => (k.block b (Nat.lt_of_lt_of_le hb h.size) hne).trans (h.block b hb hne)⟩
theorem rep_drop {α : Type} (L : List α) (m : α) (k : Nat) (hk : k < L.length) : (List.replicate k m ++ L.drop k).set k m = List.replicate (k + 1) m ++ L.drop (k + 1) := by
  rw [List.set_append_right _ _ (by simp), List.length_replicate, Nat.sub_self, List.drop_eq_getElem_cons hk, List.set_cons_zero, List.replicate_succ', List.append_assoc, List.singleton_append]

section
variable {ops : Array Oper} {rest : List Oper} {o : Oper} {a : Act} {Q : Exit → Act → World → Prop}
/-- One object more, and every row no longer than this one reads as before. -/
theorem push_keeps (w : World) {W : World} (y : Ob) (hW : W = w.alloc (.cells y.arr 84)) (hgd : o.guard = none) (s x : Operand) (ho : o.op = .call { callee := .builtin .append, args := #[s, x], argTypes := #[44, 44] }) (base : Nat) (v : Value) (n : Nat) (xs : List Value)
    (hs : a.eval s = v) (H : Nat) (hH : w.heap.size = H) (hx : a.eval x = .slice (some ⟨H, 0, none⟩) 1 1) (hrow : w.ownsRow base 84 9 v n xs) (hl : n ≤ 100000) (hbase : base ≤ w.heap.size)
    (h : ∀ v' w', w'.ownsRow base 84 9 v' (n + 1) (xs ++ y.arr.toList) → (w.alloc (.cells y.arr 84)).grownBy w' v.ownBlock → (v'.ownBlock = v.ownBlock ∨ v'.ownBlock = some (w.heap.size + 1)) → (∀ b u k ys, w.ownsRow b 84 9 u k ys → k ≤ n → w'.ownsRow b 84 9 u k ys) → wpList Tryz.prog ops Q rest (a.put o.dst v') w') :
    wpList Tryz.prog ops Q (o :: rest) a W := by
  subst hH
  subst hW
  obtain ⟨i0, hi, hz0, hz1, hz2⟩ := info_parts info29
  refine wpList_append_keeps _ hgd s x 44 ho base 84 i0 _ 9 72 Tryz.underlying44 hi hz0 hz1 hz2 rfl (by decide) v n xs hs (hrow.alloc _) ⟨w.heap.size, 0, none⟩ 1 1 y.arr.toList hx rfl (cells_new w y.arr 84) (arr_one y) (by unfold maxLen; omega) (by omega) (by simp; omega) ?_
  intro v' w' h1 h2 h3 h4
  refine h v' w' h1 h2 (by simpa using h3) (fun b u k ys hu hk => h4 b u k ys (hu.alloc _) hk)
theorem push_keepsE (w : World) {W : World} (y : Int × Ob) (hW : W = w.alloc (.cells (evP y).toArray 170)) (hgd : o.guard = none) (s x : Operand) (ho : o.op = .call { callee := .builtin .append, args := #[s, x], argTypes := #[139, 139] }) (base : Nat) (v : Value) (n : Nat) (xs : List Value)
    (hs : a.eval s = v) (H : Nat) (hH : w.heap.size = H) (hx : a.eval x = .slice (some ⟨H, 0, none⟩) 1 1) (hrow : w.ownsRow base 170 10 v n xs) (hl : n ≤ 100000) (hbase : base ≤ w.heap.size)
    (h : ∀ v' w', w'.ownsRow base 170 10 v' (n + 1) (xs ++ evP y) → (w.alloc (.cells (evP y).toArray 170)).grownBy w' v.ownBlock → (v'.ownBlock = v.ownBlock ∨ v'.ownBlock = some (w.heap.size + 1)) → (∀ b u k ys, w.ownsRow b 170 10 u k ys → k ≤ n → w'.ownsRow b 170 10 u k ys) → wpList Tryz.prog ops Q rest (a.put o.dst v') w') :
    wpList Tryz.prog ops Q (o :: rest) a W := by
  subst hH
  subst hW
  obtain ⟨i0, hi, hz0, hz1, hz2⟩ := info_parts info42
  refine wpList_append_keeps _ hgd s x 139 ho base 170 i0 _ 10 80 Tryz.underlying139 hi hz0 hz1 hz2 rfl (by decide) v n xs hs (hrow.alloc _) ⟨w.heap.size, 0, none⟩ 1 1 (evP y) hx rfl (cells_new w (evP y).toArray 170) (evP_one y) (by unfold maxLen; omega) (by omega) (by simp; omega) ?_
  intro v' w' h1 h2 h3 h4
  refine h v' w' h1 h2 (by simpa using h3) (fun b u k ys hu hk => h4 b u k ys (hu.alloc _) hk)
theorem info139 : (Tryz.prog.info? 139).map (fun i => (i.zero, i.size, i.bytes)) = some (some (.slice none 0 0), 1, 24) := by kernel_rfl
theorem push_listE (w : World) {W : World} (y : Value) (hW : W = w.alloc (.cells #[y] 139)) (hgd : o.guard = none) (s x : Operand) (ho : o.op = .call { callee := .builtin .append, args := #[s, x], argTypes := #[73, 73] }) (base : Nat) (v : Value) (L : List Value)
    (hs : a.eval s = v) (hx : a.eval x = .slice (some ⟨w.heap.size, 0, none⟩) 1 1) (hrow : w.ownsRow base 139 1 v L.length L) (hl : L.length ≤ 6200000000000) (hbase : base ≤ w.heap.size) (hy : y.oneCell' = true)
    (h : ∀ g cap w', w'.ownsRow base 139 1 (.slice (some ⟨g, 0, none⟩) (L.length + 1) cap) (L ++ [y]).length (L ++ [y]) → (w.alloc (.cells #[y] 139)).grownBy w' v.ownBlock → (v.ownBlock = some g ∨ g = w.heap.size + 1) → g < w'.heap.size → wpList Tryz.prog ops Q rest (a.put o.dst (.slice (some ⟨g, 0, none⟩) (L.length + 1) cap)) w') :
    wpList Tryz.prog ops Q (o :: rest) a W := by
  subst hW
  obtain ⟨i0, hi, hz0, hz1, hz2⟩ := info_parts info139
  refine wpList_append_wide_lies _ hgd s x 73 ho base 139 i0 _ 1 24 Tryz.underlying73 hi hz0 hz1 hz2 rfl (by decide) v _ _ hs (hrow.alloc _) ⟨w.heap.size, 0, none⟩ 1 1 [y] hx rfl (cells_new w #[y] 139) (fun u hu => by simp at hu; subst hu; exact hy) (by decide) (by unfold maxLen; omega) (by omega) (by simp; omega) (w.heap.size + 1) (by simp) ?_
  intro g cap w' h1 h2 h3 h4
  refine h g cap w' ?_ h2 h3 h4
  rw [List.length_append]
  exact h1
theorem push_listW (w : World) {W : World} (y : Value) (hW : W = w.alloc (.cells #[y] 44)) (hgd : o.guard = none) (s x : Operand) (ho : o.op = .call { callee := .builtin .append, args := #[s, x], argTypes := #[72, 72] }) (base : Nat) (v : Value) (L : List Value)
    (hs : a.eval s = v) (hx : a.eval x = .slice (some ⟨w.heap.size, 0, none⟩) 1 1) (hrow : w.ownsRow base 44 1 v L.length L) (hl : L.length ≤ 6200000000000) (hbase : base ≤ w.heap.size) (hy : y.oneCell' = true)
    (h : ∀ g cap w', w'.ownsRow base 44 1 (.slice (some ⟨g, 0, none⟩) (L.length + 1) cap) (L ++ [y]).length (L ++ [y]) → (w.alloc (.cells #[y] 44)).grownBy w' v.ownBlock → (v.ownBlock = some g ∨ g = w.heap.size + 1) → g < w'.heap.size → wpList Tryz.prog ops Q rest (a.put o.dst (.slice (some ⟨g, 0, none⟩) (L.length + 1) cap)) w') :
    wpList Tryz.prog ops Q (o :: rest) a W := by
  subst hW
  obtain ⟨i0, hi, hz0, hz1, hz2⟩ := info_parts info44
  refine wpList_append_wide_lies _ hgd s x 72 ho base 44 i0 _ 1 24 Tryz.underlying72 hi hz0 hz1 hz2 rfl (by decide) v _ _ hs (hrow.alloc _) ⟨w.heap.size, 0, none⟩ 1 1 [y] hx rfl (cells_new w #[y] 44) (fun u hu => by simp at hu; subst hu; exact hy) (by decide) (by unfold maxLen; omega) (by omega) (by simp; omega) (w.heap.size + 1) (by simp) ?_
  intro g cap w' h1 h2 h3 h4
  refine h g cap w' ?_ h2 h3 h4
  rw [List.length_append]
  exact h1
end

end Go.Proofs.YtdgfjneapialdaaGreatDoor.S
