import Derived.Test.YtdgfjneapialdaaGreatDoorMc
namespace Go.Proofs.YtdgfjneapialdaaGreatDoor
open Go Go.RowKit Go.Maps Go.Lib Go.Sort

theorem info58 : (Tryz.prog.info? 96).map (fun i => (i.zero, i.size, i.bytes)) = some (some (.agg #[.pointer none, .pointer none]), 2, 16) := by kernel_rfl

section
variable {own : Nat → Nat} {U : List ByteArray} {w w' : World} {wb : Nat} {q bw bd : Value} {ws ds : List Value} {ps : List (Nat × Nat)} {m1 m2 m n : Nat}
/-- The row of queues has grown, and is laid into its field. -/
theorem Desk.grow (h : Desk own w wb q bw bd ws ds ps m1 m2) (k : w.grownBy w' q.ownBlock) {v' : Value} {p : Nat × Nat} (hr : w'.ownsRow 0 96 2 v' (ps.length + 1) (flatP ps ++ encP p)) (hv : v'.ownBlock = q.ownBlock ∨ v'.ownBlock = some w.heap.size) :
    Desk (ownNew own w 0) (w'.setCell ⟨wb, 1, none⟩ v') wb v' bw bd ws ds (ps ++ [p]) m1 m2 ∧ KeptC (Others own w 0) w (w'.setCell ⟨wb, 1, none⟩ v') := by
  have hlt := h.isw.lt
  have hz : 1 < w.heap.size := h.tab.lt
  have hnq : q.ownBlock ≠ some wb := fun e => by
    obtain ⟨cur, hc⟩ := own_typ h.oq wb e
    exact ne_typ h.isw.blk hc (by decide) rfl
  have e0 : w'.heap[wb]? = some (.cells (wArr q bw bd) 81 (0, 0)) := (k.block _ hlt (fun e => hnq e.symm)).trans h.isw.blk
  have nt : ∀ {b : Nat} {t : TypeId} {cur : Array Value}, w.heap[b]? = some (.cells cur t (0, 0)) → t ≠ 81 → t ≠ 96 → (w'.setCell ⟨wb, 1, none⟩ v').heap[b]? = w.heap[b]? := by
    intro b t cur hc h1 h2
    have hb := (Array.getElem?_eq_some_iff.1 hc).1
    rw [Below.heap_setCell _ _ _ _ (ne_typ hc h.isw.blk h1)]
    refine k.block b hb (fun e => ?_)
    obtain ⟨c2, hc2⟩ := own_typ h.oq b e.symm
    exact ne_typ hc hc2 h2 rfl
  have n0 : ∀ {b : Nat}, b < w.heap.size → own b = 0 → ownNew own w 0 b = 0 := fun hb e => (ownNew_old hb).trans e
  have hsz : w.heap.size ≤ (w'.setCell ⟨wb, 1, none⟩ v').heap.size := by have := k.size; simpa [World.setCell] using this
  have hrow : (w'.setCell ⟨wb, 1, none⟩ v').ownsRow 0 96 2 v' (ps.length + 1) (flatP ps ++ encP p) := own_keep hr (fun b e => Below.heap_setCell _ _ _ _ (by
    obtain ⟨cur, hc⟩ := own_typ hr b e
    exact ne_typ hc e0 (by decide)))
  refine ⟨⟨⟨by rw [heap_setCell_at e0]; simp [wArr], own_keep h.isw.ow (fun b e => by obtain ⟨cur, hc⟩ := own_typ h.isw.ow b e; exact nt hc (by decide) (by decide)), own_keep h.isw.od (fun b e => by obtain ⟨cur, hc⟩ := own_typ h.isw.od b e; exact nt hc (by decide) (by decide))⟩, ?_, n0 hlt h.o0, (ownNew_old hz).trans h.oz, by rw [List.length_append, flatP_snoc]; exact hrow, ?_, fun b e => n0 (own_lt h.isw.ow e) (h.kw b e), fun b e => n0 (own_lt h.isw.od e) (h.kd b e), h.z0, h.z1, h.z2, ?_, h.l1, h.l2, fun i hi => ⟨(h.w1 i hi).1.keep (fun b e => by obtain ⟨cur, hc⟩ := (h.w1 i hi).1.typ e; exact nt hc (by decide) (by decide)), fun b e => n0 ((h.w1 i hi).1.lt e) ((h.w1 i hi).2 b e)⟩, fun i hi => ⟨(h.d1 i hi).1.keep (fun b e => by obtain ⟨cur, hc⟩ := (h.d1 i hi).1.typ e; exact nt hc (by decide) (by decide)), fun b e => n0 ((h.d1 i hi).1.lt e) ((h.d1 i hi).2 b e)⟩⟩, ?_⟩
  · refine h.tab.keep ?_
    rw [Below.heap_setCell _ _ _ _ h.z0.symm]
    exact k.block 1 hz (fun e => h.zq e.symm)
  · intro b e
    rcases hv with e2 | e2
    · have e3 : q.ownBlock = some b := e2 ▸ e
      exact n0 (own_lt h.oq e3) (h.kq b e3)
    · rw [e] at e2
      injection e2 with e2
      exact ownNew_new (by omega)
  · rcases hv with e2 | e2
    · rw [e2]; exact h.zq
    · rw [e2]; intro e; injection e with e; omega
  · refine ((KeptC.refl _ w).grown k (fun b e hO => hO.2 (h.kq b e))).set (a := ⟨wb, 1, none⟩) (fun hO => hO.2 h.o0) _

set_option maxRecDepth 100000 in
set_option maxHeartbeats 1000000 in
/-- begin: one queue more, and one of the reference. -/
theorem begin_any (h : Inv own U w wb q bw bd ws ds ps m m n none0) (hps : ps.length ≤ 2000000000000) (t : St) (hk : t.k = 11) :
    Calls Tryz.prog 27 #[.pointer (some ⟨wb, 0, none⟩), .agg t.arr] w fun e w' => e = .returned (.bool true) ∧ ∃ own' q' p, Inv own' U w' wb q' bw bd ws ds (ps ++ [p]) m m n none0 ∧ Moves own w own' w' := by
  obtain ⟨k, on, a, b, s, o0, o1, o2, o3, o4, o5, o6, o7, o8, c0, c1, c2, p0, p1, p2, p3⟩ := t
  simp only [St.arr] at hk ⊢
  subst hk
  have hB1 : Below w.heap.size w (w.alloc (.cells #[.int .i64 11, .int .i64 on, .int .i64 a, .int .i64 b, .string s, .int .u8 o0, .string o1, .int .i64 o2, .int .i64 o3, .int .i64 o4, .int .i64 o5, .int .i64 o6, .int .u8 o7, .bool o8, .int .i64 c0, .int .i64 c1, .int .i64 c2, .int .u8 p0, .string p1, .int .i64 p2, .int .i64 p3] 86)) := belowAl (Below.refl _ _) _
  have HI1 : Hid _ := h.below hB1
  have HM1 : Hid (Moves own w (ownNew own w 0) _) := Moves.below hB1
  have HPS : Hid (ps.length ≤ 2000000000000) := hps
  clear h hps hB1
  obtain ⟨i0, hi, z0, z1, z2⟩ := info_parts info58
  have hnew := new_any (Others (ownNew own w 0) (w.alloc (.cells #[.int .i64 11, .int .i64 on, .int .i64 a, .int .i64 b, .string s, .int .u8 o0, .string o1, .int .i64 o2, .int .i64 o3, .int .i64 o4, .int .i64 o5, .int .i64 o6, .int .u8 o7, .bool o8, .int .i64 c0, .int .i64 c1, .int .i64 c2, .int .u8 p0, .string p1, .int .i64 p2, .int .i64 p3] 86)) (2 * ps.length + 1)) U _ others_lt
  go_enter Tryz.func27, Tryz.ntmps27
  go_wp2_with fail
  refine hnew.mono ?_
  rintro e w2 ⟨rfl, hq2, hb2⟩
  clear hnew
  generalize w.alloc (.cells #[.int .i64 11, .int .i64 on, .int .i64 a, .int .i64 b, .string s, .int .u8 o0, .string o1, .int .i64 o2, .int .i64 o3, .int .i64 o4, .int .i64 o5, .int .i64 o6, .int .u8 o7, .bool o8, .int .i64 c0, .int .i64 c1, .int .i64 c2, .int .u8 p0, .string p1, .int .i64 p2, .int .i64 p3] 86) = W1 at *
  have hb := both_new hq2 hb2
  have hI2 := (HI1.out.call (a := 2 * ps.length + 1) (by omega) (by have := HPS.out; unfold ARG; omega) (fun j hj _ => ⟨by omega, by omega⟩) (KeptC.of_below hb2 rfl)).call (a := 2 * ps.length + 2) (w' := w2.alloc (.cells (rArr 0 (.slice none 0 0) (.slice none 0 0) (.slice none 0 0) (.slice none 0 0) (.slice none 0 0)) 128)) (by omega) (by have := HPS.out; unfold ARG; omega) (fun j hj _ => ⟨by omega, by omega⟩) ((KeptC.refl _ _).alloc _)
  have hM2 : Moves own w _ (w2.alloc (.cells (rArr 0 (.slice none 0 0) (.slice none 0 0) (.slice none 0 0) (.slice none 0 0) (.slice none 0 0)) 128)) := HM1.out.trans (Moves.pair (i := ps.length) (by have := HPS.out; unfold ARG; omega) (KeptC.of_below hb2 rfl) ((KeptC.refl _ _).alloc _))
  have hB3 : Below (w2.alloc (.cells (rArr 0 (.slice none 0 0) (.slice none 0 0) (.slice none 0 0) (.slice none 0 0) (.slice none 0 0)) 128)).heap.size (w2.alloc (.cells (rArr 0 (.slice none 0 0) (.slice none 0 0) (.slice none 0 0) (.slice none 0 0) (.slice none 0 0)) 128)) ((w2.alloc (.cells (rArr 0 (.slice none 0 0) (.slice none 0 0) (.slice none 0 0) (.slice none 0 0) (.slice none 0 0)) 128)).alloc (.cells #[.pointer (some ⟨W1.heap.size + 3, 0, none⟩), .pointer (some ⟨w2.heap.size, 0, none⟩)] 96)) := belowAl (Below.refl _ _) _
  have hI3 := hI2.below hB3
  have hT3 : Thing _ U _ ps.length (W1.heap.size + 3) w2.heap.size n := Thing.other (a := 0) ⟨_, _, hb, by show (0 : Int) ≤ _; omega, fun x hx => by simp at hx⟩ (by omega) (by omega) (KeptC.of_below hB3 rfl)
  have hM3 := hM2.trans (Moves.below hB3)
  have hown := hI3.desk.oq
  have p1' := (HI1.out.desk.isw.below hb2).p1
  have hlt := (HI1.out.desk.isw.below hb2).lt
  obtain ⟨ao, cap, eq⟩ := own_form hown
  have HI3 : Hid _ := hI3
  have HT3 : Hid _ := hT3
  have HM3 : Hid _ := hM3
  have h63 : ps.length + 1 ≤ maxLen := by have := HPS.out; unfold maxLen; omega
  have hby : (ps.length + 1) * 16 ≤ 140737488355328 := by have := HPS.out; omega
  have hone : ∀ u ∈ [Value.pointer (some ⟨W1.heap.size + 3, 0, none⟩), .pointer (some ⟨w2.heap.size, 0, none⟩)], u.oneCell' = true := by
    intro u hu
    simp only [List.mem_cons, List.not_mem_nil, or_false] at hu
    rcases hu with rfl | rfl <;> rfl
  have hcn := cell_two_new (w2.alloc (.cells (rArr 0 (.slice none 0 0) (.slice none 0 0) (.slice none 0 0) (.slice none 0 0) (.slice none 0 0)) 128)) (.pointer (some ⟨W1.heap.size + 3, 0, none⟩)) (.pointer (some ⟨w2.heap.size, 0, none⟩)) 96
  have hs3 : (w2.alloc (.cells (rArr 0 (.slice none 0 0) (.slice none 0 0) (.slice none 0 0) (.slice none 0 0) (.slice none 0 0)) 128)).heap.size = w2.heap.size + 1 := by simp
  rw [hs3] at hcn
  clear hq2 hb2 hb hI2 hM2 hB3 hI3 hT3 hM3 hs3 HI1 HM1
  subst eq
  simp only [rArr] at *
  go_wp2_with (first
    | (at_builtin; refine wpList_append_keeps _ rfl _ _ 70 rfl 0 96 i0 (.agg #[.pointer none, .pointer none]) 2 16 Tryz.underlying70 hi z0 z1 z2 rfl (by decide) _ _ _ rfl hown ⟨w2.heap.size + 1, 0, none⟩ 1 1 [.pointer (some ⟨W1.heap.size + 3, 0, none⟩), .pointer (some ⟨w2.heap.size, 0, none⟩)] rfl rfl hcn hone h63 hby (Nat.zero_le _) ?_; intro v' w5 hown' hg hat _
       obtain ⟨ao3, cap3, ev3⟩ := own_form hown'
       subst ev3
       have hg2 := HI3.out.desk.grow (p := (W1.heap.size + 3, w2.heap.size)) hg hown' hat
       have er : w5.heap[wb]? = some (.cells (wArr (.slice ao ps.length cap) bw bd) 81 (0, 0)) := (hg.block wb HI3.out.desk.isw.lt (fun e => by obtain ⟨cur, hc⟩ := own_typ HI3.out.desk.oq wb e.symm; exact ne_typ HI3.out.desk.isw.blk hc (by decide) rfl)).trans HI3.out.desk.isw.blk
       have c3 : w5.cell? ⟨wb, 1, none⟩ = some (.slice ao ps.length cap) := by simp [World.cell?, er, wArr]
       have f3 : w5.frozen? ⟨wb, 1, none⟩ = false := by simp [World.frozen?, er]
       have HG2 : Hid _ := hg2
       clear hg hat hown' hown er hg2
       go_frame)
    | go_in)
  go_ret
  refine ⟨rfl, _, _, _, ⟨HG2.out.1, fun i hi2 _ => ?_⟩, HM3.out.trans (Moves.call (by unfold ARG; omega) HG2.out.2)⟩
  by_cases e : i < ps.length
  · have := (HI3.out.th i e id).other (a := 0) (by omega) (by omega) HG2.out.2
    rw [List.getElem_append_left e]
    exact this
  · have e2 : i = ps.length := by rw [List.length_append] at hi2; simp at hi2; omega
    subst e2
    have := Thing.other (a := 0) HT3.out (by omega) (by omega) HG2.out.2
    rw [List.getElem_append_right (by omega)]
    simpa using this
end

end Go.Proofs.YtdgfjneapialdaaGreatDoor
