import Derived.Test.YtdgfjneapialdaaGreatDoorTy
namespace Go.Proofs.YtdgfjneapialdaaGreatDoor.S
open Go Go.RowKit Go.Maps

theorem info91 : (Tryz.prog.info? 91).map (fun i => (i.zero, i.size, i.bytes)) = some (some (.agg #[.pointer none, .pointer none]), 2, 16) := by kernel_rfl

set_option maxRecDepth 100000 in
set_option maxHeartbeats 1000000 in
theorem new_bad (lim : Int) (w : World) (hbad : lim < 1 ∨ 64 < lim) : Calls Tryz.prog 42 #[.int .i64 lim] w fun e w' => e = .returned (.tuple #[.pointer none, .int .i64 1]) ∧ w' = w := by
  by_cases h1 : lim < 1
  · have d1 : decide (lim < 1) = true := decide_eq_true h1
    go_enter Tryz.func42, Tryz.ntmps42
    go_wp2
    go_ret2
    exact ⟨rfl, rfl⟩
  · have d1 : decide (lim < 1) = false := decide_eq_false h1
    have d2 : decide (64 < lim) = true := decide_eq_true (by omega)
    go_enter Tryz.func42, Tryz.ntmps42
    go_wp2
    go_ret2
    exact ⟨rfl, rfl⟩

theorem rel_start {lim : Int} (h1 : 1 ≤ lim) (h2 : lim ≤ 64) : RelS lim 0 0 (fun _ => (0, Ob.zero)) 0 (.map []) [] [] [] := by
  have na : ∀ k s o, ¬ At (.map []) k s o := by
    intro k s o h
    exact Bool.false_ne_true h.1
  exact ⟨h1, h2, rfl, ⟨by omega, by omega, by omega, by omega, by simp, ⟨[], rfl⟩, fun k s o _ _ _ h => (na k s o h).elim⟩, ⟨fun x hx => by simp at hx, fun k s o _ _ h => (na k s o h).elim, List.Pairwise.nil⟩, Hist.start _ _ _, ⟨[], rfl, List.Pairwise.nil⟩, rfl, by simp; omega⟩

/-- Two new things side by side. -/
theorem thing_new {own : Nat → Nat} {W1 w2 w3 : World} {l sb mb : Nat} {lim : Int} (h1 : 1 ≤ lim) (h2 : lim ≤ 64) (hS : IsStore w2 sb mb lim 0 0 zlog 0 (.map [])) (hsb : W1.heap.size ≤ sb) (hmb : W1.heap.size ≤ mb) (hsb2 : sb < w2.heap.size) (hmb2 : mb < w2.heap.size) {pv : Value}
    (hR : IsRef (Others (ownNew own W1 (2 * l + 1)) w2 (2 * l + 2)) w3 w2.heap.size lim 0 pv (.slice none 0 0) [.slice none 0 0] [[]] []) (hb : Below w2.heap.size w2 w3) : Thing (ownNew (ownNew own W1 (2 * l + 1)) w2 (2 * l + 2)) w3 l sb w2.heap.size := by
  rw [zlog_is] at hS
  exact ⟨mb, lim, 0, 0, _, 0, _, pv, .slice none 0 0, .slice none 0 0, [], [], [], [], hS.below hb, (ownNew_old hsb2).trans (ownNew_new hsb), (ownNew_old hmb2).trans (ownNew_new hmb), IsRef.same hR hb.size, rel_start h1 h2⟩

section
variable {own : Nat → Nat} {w w' : World} {wb : Nat} {q bw bd : Value} {ws ds : List Value} {ps : List (Nat × Nat)} {m1 m2 : Nat}
/-- The row of stores has grown, and is laid into its field. -/
theorem Desk.grow (h : Desk own w wb q bw bd ws ds ps m1 m2) (k : w.grownBy w' q.ownBlock) {v' : Value} {p : Nat × Nat} (hr : w'.ownsRow 0 91 2 v' (ps.length + 1) (flatP ps ++ encP p)) (hv : v'.ownBlock = q.ownBlock ∨ v'.ownBlock = some w.heap.size) :
    Desk (ownNew own w 0) (w'.setCell ⟨wb, 0, none⟩ v') wb v' bw bd ws ds (ps ++ [p]) m1 m2 ∧ KeptC (Others own w 0) w (w'.setCell ⟨wb, 0, none⟩ v') := by
  have hlt := h.isw.lt
  have hz : 1 < w.heap.size := h.tab.lt
  have hnq : q.ownBlock ≠ some wb := fun e => by
    obtain ⟨cur, hc⟩ := own_typ h.oq wb e
    exact ne_typ h.isw.blk hc (by decide) rfl
  have e0 : w'.heap[wb]? = some (.cells (wArr q bw bd) 81 (0, 0)) := (k.block _ hlt (fun e => hnq e.symm)).trans h.isw.blk
  have nt : ∀ {b : Nat} {t : TypeId} {cur : Array Value}, w.heap[b]? = some (.cells cur t (0, 0)) → t ≠ 81 → t ≠ 91 → (w'.setCell ⟨wb, 0, none⟩ v').heap[b]? = w.heap[b]? := by
    intro b t cur hc h1 h2
    have hb := (Array.getElem?_eq_some_iff.1 hc).1
    rw [Below.heap_setCell _ _ _ _ (ne_typ hc h.isw.blk h1)]
    refine k.block b hb (fun e => ?_)
    obtain ⟨c2, hc2⟩ := own_typ h.oq b e.symm
    exact ne_typ hc hc2 h2 rfl
  have n0 : ∀ {b : Nat}, b < w.heap.size → own b = 0 → ownNew own w 0 b = 0 := fun hb e => (ownNew_old hb).trans e
  have hsz : w.heap.size ≤ (w'.setCell ⟨wb, 0, none⟩ v').heap.size := by have := k.size; simpa [World.setCell] using this
  have hrow : (w'.setCell ⟨wb, 0, none⟩ v').ownsRow 0 91 2 v' (ps.length + 1) (flatP ps ++ encP p) := own_keep hr (fun b e => Below.heap_setCell _ _ _ _ (by
    obtain ⟨cur, hc⟩ := own_typ hr b e
    exact ne_typ hc e0 (by decide)))
  refine ⟨⟨⟨by rw [heap_setCell_at e0]; simp [wArr], own_keep h.isw.ow (fun b e => by obtain ⟨cur, hc⟩ := own_typ h.isw.ow b e; exact nt hc (by decide) (by decide)), own_keep h.isw.od (fun b e => by obtain ⟨cur, hc⟩ := own_typ h.isw.od b e; exact nt hc (by decide) (by decide))⟩, ?_, n0 hlt h.o0, (ownNew_old hz).trans h.oz, (ownNew_old (Nat.zero_lt_of_lt hlt)).trans h.oy, by rw [List.length_append, flatP_snoc]; exact hrow, ?_, fun b e => n0 (own_lt h.isw.ow e) (h.kw b e), fun b e => n0 (own_lt h.isw.od e) (h.kd b e), h.z0, h.z1, h.z2, ?_, h.l1, h.l2, fun i hi => ⟨(h.w1 i hi).1.keep (fun b e => by obtain ⟨cur, hc⟩ := (h.w1 i hi).1.typ e; exact nt hc (by decide) (by decide)), fun b e => n0 ((h.w1 i hi).1.lt e) ((h.w1 i hi).2 b e)⟩, fun i hi => ⟨(h.d1 i hi).1.keep (fun b e => by obtain ⟨cur, hc⟩ := (h.d1 i hi).1.typ e; exact nt hc (by decide) (by decide)), fun b e => n0 ((h.d1 i hi).1.lt e) ((h.d1 i hi).2 b e)⟩⟩, ?_⟩
  · refine h.tab.keep ?_
    rw [Below.heap_setCell _ _ _ _ h.z0.symm]
    exact k.block 1 hz (fun e => h.zq e.symm)
  · intro b e
    rcases hv with e2 | e2
    · have e3 : q.ownBlock = some b := e2 ▸ e
      exact n0 (own_lt h.oq e3) (h.kq b e3)
    · rw [e] at e2
      injection e2 with e2
      exact ownNew_new (by omega)
  · rcases hv with e2 | e2
    · rw [e2]; exact h.zq
    · rw [e2]; intro e; injection e with e; omega
  · refine ((KeptC.refl _ w).grown k (fun b e hO => hO.2 (h.kq b e))).set (a := ⟨wb, 0, none⟩) (fun hO => hO.2 h.o0) _


set_option maxRecDepth 100000 in
set_option maxHeartbeats 1000000 in
/-- begin, at a limit that a store may not have. -/
theorem begin_bad (h : Inw own w wb q bw bd ws ds ps m1 m2 none0) (on a b : Int) (s : ByteArray) (o0 : Int) (o1 : ByteArray) (o2 o3 o4 o5 o6 o7 : Int) (o8 : Bool) (c0 c1 c2 p0 : Int) (p1 : ByteArray) (p2 p3 : Int) (hbad : a < 1 ∨ 64 < a) :
    Calls Tryz.prog 27 #[.pointer (some ⟨wb, 0, none⟩), .agg #[.int .i64 1, .int .i64 on, .int .i64 a, .int .i64 b, .string s, .int .u8 o0, .string o1, .int .i64 o2, .int .i64 o3, .int .i64 o4, .int .i64 o5, .int .i64 o6, .int .u8 o7, .bool o8, .int .i64 c0, .int .i64 c1, .int .i64 c2, .int .u8 p0, .string p1, .int .i64 p2, .int .i64 p3]] w fun e w' => e = .returned (.bool true) ∧ ∃ own', Inw own' w' wb q bw bd ws ds ps m1 m2 none0 ∧ Moves own w own' w' := by
  have hB1 : Below w.heap.size w (w.alloc (.cells #[.int .i64 1, .int .i64 on, .int .i64 a, .int .i64 b, .string s, .int .u8 o0, .string o1, .int .i64 o2, .int .i64 o3, .int .i64 o4, .int .i64 o5, .int .i64 o6, .int .u8 o7, .bool o8, .int .i64 c0, .int .i64 c1, .int .i64 c2, .int .u8 p0, .string p1, .int .i64 p2, .int .i64 p3] 86)) := belowAl (Below.refl _ _) _
  have HF : Hid (∃ own', Inw own' (w.alloc (.cells #[.int .i64 1, .int .i64 on, .int .i64 a, .int .i64 b, .string s, .int .u8 o0, .string o1, .int .i64 o2, .int .i64 o3, .int .i64 o4, .int .i64 o5, .int .i64 o6, .int .u8 o7, .bool o8, .int .i64 c0, .int .i64 c1, .int .i64 c2, .int .u8 p0, .string p1, .int .i64 p2, .int .i64 p3] 86)) wb q bw bd ws ds ps m1 m2 none0 ∧ Moves own w own' (w.alloc (.cells #[.int .i64 1, .int .i64 on, .int .i64 a, .int .i64 b, .string s, .int .u8 o0, .string o1, .int .i64 o2, .int .i64 o3, .int .i64 o4, .int .i64 o5, .int .i64 o6, .int .u8 o7, .bool o8, .int .i64 c0, .int .i64 c1, .int .i64 c2, .int .u8 p0, .string p1, .int .i64 p2, .int .i64 p3] 86))) := ⟨_, h.below hB1, Moves.below hB1⟩
  have hn := new_bad a (w.alloc (.cells #[.int .i64 1, .int .i64 on, .int .i64 a, .int .i64 b, .string s, .int .u8 o0, .string o1, .int .i64 o2, .int .i64 o3, .int .i64 o4, .int .i64 o5, .int .i64 o6, .int .u8 o7, .bool o8, .int .i64 c0, .int .i64 c1, .int .i64 c2, .int .u8 p0, .string p1, .int .i64 p2, .int .i64 p3] 86)) hbad
  have hr := newRef_bad a (w.alloc (.cells #[.int .i64 1, .int .i64 on, .int .i64 a, .int .i64 b, .string s, .int .u8 o0, .string o1, .int .i64 o2, .int .i64 o3, .int .i64 o4, .int .i64 o5, .int .i64 o6, .int .u8 o7, .bool o8, .int .i64 c0, .int .i64 c1, .int .i64 c2, .int .u8 p0, .string p1, .int .i64 p2, .int .i64 p3] 86)) hbad
  clear h hB1 hbad
  go_enter Tryz.func27, Tryz.ntmps27
  go_wp2_with fail
  refine hn.mono ?_
  rintro e w2 ⟨rfl, rfl⟩
  clear hn
  go_wp2_with fail
  refine hr.mono ?_
  rintro e w3 ⟨rfl, rfl⟩
  clear hr
  go_wp2
  go_ret
  exact ⟨rfl, HF.out⟩

set_option maxRecDepth 100000 in
set_option maxHeartbeats 1000000 in
/-- begin: one store more, and one of the reference. -/
theorem begin_ok (h : Inw own w wb q bw bd ws ds ps m1 m2 none0) (hps : ps.length ≤ 2000000000000) (on a b : Int) (s : ByteArray) (o0 : Int) (o1 : ByteArray) (o2 o3 o4 o5 o6 o7 : Int) (o8 : Bool) (c0 c1 c2 p0 : Int) (p1 : ByteArray) (p2 p3 : Int) (ha1 : 1 ≤ a) (ha2 : a ≤ 64) :
    Calls Tryz.prog 27 #[.pointer (some ⟨wb, 0, none⟩), .agg #[.int .i64 1, .int .i64 on, .int .i64 a, .int .i64 b, .string s, .int .u8 o0, .string o1, .int .i64 o2, .int .i64 o3, .int .i64 o4, .int .i64 o5, .int .i64 o6, .int .u8 o7, .bool o8, .int .i64 c0, .int .i64 c1, .int .i64 c2, .int .u8 p0, .string p1, .int .i64 p2, .int .i64 p3]] w fun e w' => e = .returned (.bool true) ∧ ∃ own' q' p, Inw own' w' wb q' bw bd ws ds (ps ++ [p]) m1 m2 none0 ∧ Moves own w own' w' := by
  have hB1 : Below w.heap.size w (w.alloc (.cells #[.int .i64 1, .int .i64 on, .int .i64 a, .int .i64 b, .string s, .int .u8 o0, .string o1, .int .i64 o2, .int .i64 o3, .int .i64 o4, .int .i64 o5, .int .i64 o6, .int .u8 o7, .bool o8, .int .i64 c0, .int .i64 c1, .int .i64 c2, .int .u8 p0, .string p1, .int .i64 p2, .int .i64 p3] 86)) := belowAl (Below.refl _ _) _
  have HI1 : Hid (Inw (ownNew own w 0) (w.alloc (.cells #[.int .i64 1, .int .i64 on, .int .i64 a, .int .i64 b, .string s, .int .u8 o0, .string o1, .int .i64 o2, .int .i64 o3, .int .i64 o4, .int .i64 o5, .int .i64 o6, .int .u8 o7, .bool o8, .int .i64 c0, .int .i64 c1, .int .i64 c2, .int .u8 p0, .string p1, .int .i64 p2, .int .i64 p3] 86)) wb q bw bd ws ds ps m1 m2 none0) := h.below hB1
  have HM1 : Hid (Moves own w (ownNew own w 0) (w.alloc (.cells #[.int .i64 1, .int .i64 on, .int .i64 a, .int .i64 b, .string s, .int .u8 o0, .string o1, .int .i64 o2, .int .i64 o3, .int .i64 o4, .int .i64 o5, .int .i64 o6, .int .u8 o7, .bool o8, .int .i64 c0, .int .i64 c1, .int .i64 c2, .int .u8 p0, .string p1, .int .i64 p2, .int .i64 p3] 86))) := Moves.below hB1
  have HPS : Hid (ps.length ≤ 2000000000000) := hps
  have HA : Hid (1 ≤ a ∧ a ≤ 64) := ⟨ha1, ha2⟩
  have HX : Hid ((w.alloc (.cells #[.int .i64 1, .int .i64 on, .int .i64 a, .int .i64 b, .string s, .int .u8 o0, .string o1, .int .i64 o2, .int .i64 o3, .int .i64 o4, .int .i64 o5, .int .i64 o6, .int .u8 o7, .bool o8, .int .i64 c0, .int .i64 c1, .int .i64 c2, .int .u8 p0, .string p1, .int .i64 p2, .int .i64 p3] 86)).heap[w.heap.size]? = some (.cells #[.int .i64 1, .int .i64 on, .int .i64 a, .int .i64 b, .string s, .int .u8 o0, .string o1, .int .i64 o2, .int .i64 o3, .int .i64 o4, .int .i64 o5, .int .i64 o6, .int .u8 o7, .bool o8, .int .i64 c0, .int .i64 c1, .int .i64 c2, .int .u8 p0, .string p1, .int .i64 p2, .int .i64 p3] 86 (0, 0))) := alloc_last w _
  have hnew := new_ok a (w.alloc (.cells #[.int .i64 1, .int .i64 on, .int .i64 a, .int .i64 b, .string s, .int .u8 o0, .string o1, .int .i64 o2, .int .i64 o3, .int .i64 o4, .int .i64 o5, .int .i64 o6, .int .u8 o7, .bool o8, .int .i64 c0, .int .i64 c1, .int .i64 c2, .int .u8 p0, .string p1, .int .i64 p2, .int .i64 p3] 86)) ha1 ha2
  clear h hps hB1 ha1 ha2
  obtain ⟨i0, hi, z0, z1, z2⟩ := info_parts info91
  go_enter Tryz.func27, Tryz.ntmps27
  go_wp2_with fail
  refine hnew.mono ?_
  rintro e w2 ⟨rfl, hS2, hb2⟩
  clear hnew
  generalize w.alloc (.cells #[.int .i64 1, .int .i64 on, .int .i64 a, .int .i64 b, .string s, .int .u8 o0, .string o1, .int .i64 o2, .int .i64 o3, .int .i64 o4, .int .i64 o5, .int .i64 o6, .int .u8 o7, .bool o8, .int .i64 c0, .int .i64 c1, .int .i64 c2, .int .u8 p0, .string p1, .int .i64 p2, .int .i64 p3] 86) = W1 at *
  have hx2 : w2.heap[w.heap.size]? = _ := (hb2.block _ (Array.getElem?_eq_some_iff.1 HX.out).1).trans HX.out
  have e2 : w2.cell? ⟨w.heap.size, 2, none⟩ = some (.int .i64 a) := by simp [World.cell?, hx2]
  have hr := newRef_ok (Others (ownNew (ownNew own w 0) W1 (2 * ps.length + 1)) w2 (2 * ps.length + 2)) a w2 others_lt HA.out.1 HA.out.2
  have HS2 : Hid _ := hS2
  have HB2 : Hid _ := hb2
  clear hS2 hb2 hx2
  go_wp2_with fail
  refine hr.mono ?_
  rintro e w3 ⟨rfl, ⟨pv, hR⟩, hb3⟩
  clear hr e2
  have hsb : W1.heap.size + 1 < w2.heap.size := (Array.getElem?_eq_some_iff.1 HS2.out.blk).1
  have hT := thing_new (own := ownNew own w 0) (l := ps.length) HA.out.1 HA.out.2 HS2.out (Nat.le_succ _) (Nat.le_refl _) hsb (Nat.lt_of_succ_lt hsb) hR hb3
  have hI2 := (HI1.out.call (a := 2 * ps.length + 1) (by omega) (by have := HPS.out; unfold ARG; omega) (fun j hj _ => ⟨by omega, by omega⟩) (KeptC.of_below HB2.out rfl)).call (a := 2 * ps.length + 2) (w' := w3) (by omega) (by have := HPS.out; unfold ARG; omega) (fun j hj _ => ⟨by omega, by omega⟩) (KeptC.of_below hb3 rfl)
  have hM2 : Moves own w _ w3 := (HM1.out.trans (Moves.call (a := 2 * ps.length + 1) (by have := HPS.out; unfold ARG; omega) (KeptC.of_below HB2.out rfl))).trans (Moves.call (a := 2 * ps.length + 2) (by have := HPS.out; unfold ARG; omega) (KeptC.of_below hb3 rfl))
  have hB3 : Below w3.heap.size w3 (w3.alloc (.cells #[.pointer (some ⟨W1.heap.size + 1, 0, none⟩), .pointer (some ⟨w2.heap.size, 0, none⟩)] 91)) := belowAl (Below.refl _ _) _
  have hI3 := hI2.below hB3
  have hT3 := Thing.other (a := 0) hT (by omega) (by omega) (KeptC.of_below hB3 rfl)
  have hM3 := hM2.trans (Moves.below hB3)
  have hown := hI3.desk.oq
  have p1' := hI2.desk.isw.p0
  have hlt := hI2.desk.isw.lt
  obtain ⟨ao, cap, eq⟩ := own_form hown
  have HI3 : Hid _ := hI3
  have HT3 : Hid _ := hT3
  have HM3 : Hid _ := hM3
  have h63 : ps.length + 1 ≤ maxLen := by have := HPS.out; unfold maxLen; omega
  have hby : (ps.length + 1) * 16 ≤ 140737488355328 := by have := HPS.out; omega
  have hone : ∀ u ∈ [Value.pointer (some ⟨W1.heap.size + 1, 0, none⟩), .pointer (some ⟨w2.heap.size, 0, none⟩)], u.oneCell' = true := by
    intro u hu
    simp only [List.mem_cons, List.not_mem_nil, or_false] at hu
    rcases hu with rfl | rfl <;> rfl
  have hcn : ∀ j u, [Value.pointer (some ⟨W1.heap.size + 1, 0, none⟩), .pointer (some ⟨w2.heap.size, 0, none⟩)][j]? = some u → (w3.alloc (.cells #[.pointer (some ⟨W1.heap.size + 1, 0, none⟩), .pointer (some ⟨w2.heap.size, 0, none⟩)] 91)).cell? ((⟨w3.heap.size, 0, none⟩ : Addr).add j) = some u := cells_new w3 #[.pointer (some ⟨W1.heap.size + 1, 0, none⟩), .pointer (some ⟨w2.heap.size, 0, none⟩)] 91
  clear hT hI2 hM2 hB3 hI3 hT3 hM3 HI1 HM1 hsb hR hb3 HS2 HB2
  subst eq
  go_wp2_with (first
    | (at_builtin; refine wpList_append_keeps _ rfl _ _ 69 rfl 0 91 i0 (.agg #[.pointer none, .pointer none]) 2 16 Tryz.underlying69 hi z0 z1 z2 rfl (by decide) _ _ _ rfl hown ⟨w3.heap.size, 0, none⟩ 1 1 [Value.pointer (some ⟨W1.heap.size + 1, 0, none⟩), .pointer (some ⟨w2.heap.size, 0, none⟩)] rfl rfl hcn hone h63 hby (Nat.zero_le _) ?_; intro v' w5 hown' hg hat _
       obtain ⟨ao3, cap3, ev3⟩ := own_form hown'
       subst ev3
       have hg2 := HI3.out.desk.grow (p := (W1.heap.size + 1, w2.heap.size)) hg hown' hat
       have er : w5.heap[wb]? = some (.cells (wArr (.slice ao ps.length cap) bw bd) 81 (0, 0)) := (hg.block wb HI3.out.desk.isw.lt (fun e => by obtain ⟨cur, hc⟩ := own_typ HI3.out.desk.oq wb e.symm; exact ne_typ HI3.out.desk.isw.blk hc (by decide) rfl)).trans HI3.out.desk.isw.blk
       have c3 : w5.cell? ⟨wb, 0, none⟩ = some (.slice ao ps.length cap) := by simp [World.cell?, er, wArr]
       have f3 : w5.frozen? ⟨wb, 0, none⟩ = false := by simp [World.frozen?, er]
       have HG2 : Hid _ := hg2
       clear hg hat hown' hown er hg2
       go_frame)
    | fail)
  go_ret
  refine ⟨rfl, _, _, _, ⟨HG2.out.1, fun i hi2 _ => ?_⟩, HM3.out.trans (Moves.call (by unfold ARG; omega) HG2.out.2)⟩
  by_cases e : i < ps.length
  · have := (HI3.out.th i e id).other (a := 0) (by omega) (by omega) HG2.out.2
    rw [List.getElem_append_left e]
    exact this
  · have e2 : i = ps.length := by rw [List.length_append] at hi2; simp at hi2; omega
    subst e2
    have := Thing.other (a := 0) HT3.out (by omega) (by omega) HG2.out.2
    rw [List.getElem_append_right (by omega)]
    simpa using this
end

end Go.Proofs.YtdgfjneapialdaaGreatDoor.S
