import Derived.Test.YtdgfjneapialdaaGreatDoorTv
namespace Go.Proofs.YtdgfjneapialdaaGreatDoor.S
open Go Go.RowKit Go.Maps

section
variable {own : Nat → Nat} {w : World} {wb : Nat} {q bw bd : Value} {ws ds : List Value} {ps : List (Nat × Nat)} {m1 m2 m : Nat}
/-- Both calls, and what the script has written to its own new blocks. -/
theorem Inw.fin (h : Inw own w wb q bw bd ws ds ps m1 m2 none0) {i : Nat} (hA : 2 * i + 2 < ARG) (hi : i < ps.length) {W w3 W3 w4 w5 : World} (hB : Below w.heap.size w W) (k1 : KeptC (Others (ownNew own w 0) W (2 * i + 1)) W w3)
    (kA : KeptC (Others (ownNew (ownNew own w 0) W (2 * i + 1)) w3 0) w3 W3) (kA' : ∀ b, b < w.heap.size → W3.heap[b]? = w3.heap[b]?)
    (k2 : KeptC (Others (ownNew (ownNew (ownNew own w 0) W (2 * i + 1)) w3 0) W3 (2 * i + 2)) W3 w4)
    (kB : KeptC (Others (ownNew (ownNew (ownNew (ownNew own w 0) W (2 * i + 1)) w3 0) W3 (2 * i + 2)) w4 0) w4 w5) (kB' : ∀ b, b < w.heap.size → w5.heap[b]? = w4.heap[b]?)
    {qb rb : Nat} (hq : qb = ps[i].1) (hr : rb = ps[i].2) (ht : Thing (ownNew (ownNew (ownNew (ownNew own w 0) W (2 * i + 1)) w3 0) W3 (2 * i + 2)) w4 i qb rb) :
    ∃ own', Inw own' w5 wb q bw bd ws ds ps m1 m2 none0 ∧ Moves own w own' w5 := by
  have s1 := hB.size
  have s2 := k1.size
  have s3 := kA.size
  have s4 := k2.size
  have ho : ∀ b, b < w.heap.size → ownNew (ownNew (ownNew (ownNew (ownNew own w 0) W (2 * i + 1)) w3 0) W3 (2 * i + 2)) w4 0 b = own b := by
    intro b hb
    rw [ownNew_old (by omega), ownNew_old (by omega), ownNew_old (by omega), ownNew_old (by omega), ownNew_old hb]
  refine ⟨_, ⟨h.desk.keep (fun b hb e => ?_) ho, fun j hj _ => ?_⟩, ?_⟩
  · have hz : 0 < ARG := by unfold ARG; omega
    have f1 : ownNew own w 0 b = own b := ownNew_old hb
    have f2 : ownNew (ownNew own w 0) W (2 * i + 1) b = own b := (ownNew_old (by omega)).trans f1
    have f3 : ownNew (ownNew (ownNew own w 0) W (2 * i + 1)) w3 0 b = own b := (ownNew_old (by omega)).trans f2
    rw [kB' b hb, k2.block b ⟨by omega, by rw [f3]; omega⟩ (by omega), kA' b hb, k1.block b ⟨by omega, by rw [f1]; omega⟩ (by omega)]
    exact hB.block b hb
  · by_cases e : j = i
    · subst e
      subst hq hr
      exact ht.other (a := 0) (by omega) (by omega) kB
    · exact (((((h.th j hj id).other (a := 0) (by omega) (by omega) (KeptC.of_below hB rfl)).other (by omega) (by omega) k1).other (a := 0) (by omega) (by omega) kA).other (by omega) (by omega) k2).other (a := 0) (by omega) (by omega) kB
  · have hz : 0 < ARG := by unfold ARG; omega
    exact ((((Moves.below hB).trans (Moves.call (by omega) k1)).trans (Moves.call hz kA)).trans (Moves.call hA k2)).trans (Moves.call hz kB)

theorem hsb {own : Nat → Nat} {w : World} {i sb rb : Nat} (h : Thing own w i sb rb) : own sb = 2 * i + 1 := by
  obtain ⟨mb, lim, ver, cre, f, n, D, pv, ev, nv, sp, pre, l, es, hS, o1, o2, hR, hrel⟩ := h
  exact o1
theorem hrf {own : Nat → Nat} {w : World} {i sb rb : Nat} (h : Thing own w i sb rb) : own rb = 2 * i + 2 := by
  obtain ⟨mb, lim, ver, cre, f, n, D, pv, ev, nv, sp, pre, l, es, hS, o1, o2, hR, hrel⟩ := h
  by_cases e : own rb = 2 * i + 2
  · exact e
  · exact absurd ⟨hR.lt, e⟩ hR.c0
theorem set9_keptC {C : Nat → Prop} {w : World} {N : Nat} (hN : ¬ C N) (y0 y1 y2 y3 y4 y5 y6 y7 y8 : Value) : KeptC C w (set9 w N y0 y1 y2 y3 y4 y5 y6 y7 y8) := by
  rw [set9_def]
  exact (((((((((KeptC.refl C w).set (a := ⟨N, 0, none⟩) hN _).set (a := ⟨N, 1, none⟩) hN _).set (a := ⟨N, 2, none⟩) hN _).set (a := ⟨N, 3, none⟩) hN _).set (a := ⟨N, 4, none⟩) hN _).set (a := ⟨N, 5, none⟩) hN _).set (a := ⟨N, 6, none⟩) hN _).set (a := ⟨N, 7, none⟩) hN _).set (a := ⟨N, 8, none⟩) hN _

theorem box4 (w : World) (a b c d : Obj) : Below w.heap.size w ((((w.alloc a).alloc b).alloc c).alloc d) ∧ ((((w.alloc a).alloc b).alloc c).alloc d).heap[w.heap.size]? = some a ∧ ((((w.alloc a).alloc b).alloc c).alloc d).heap[w.heap.size + 1]? = some b ∧ ((((w.alloc a).alloc b).alloc c).alloc d).heap[w.heap.size + 2]? = some c ∧ ((((w.alloc a).alloc b).alloc c).alloc d).heap[w.heap.size + 3]? = some d ∧ ((((w.alloc a).alloc b).alloc c).alloc d).heap.size = w.heap.size + 4 := by
  refine ⟨belowAl (belowAl (belowAl (belowAl (Below.refl _ _) _) _) _) _, ?_, ?_, ?_, ?_, by simp⟩
  · rw [Below.heap_alloc _ _ _ (by simp <;> omega), Below.heap_alloc _ _ _ (by simp <;> omega)]; exact box2a w a b
  · rw [Below.heap_alloc _ _ _ (by simp <;> omega), Below.heap_alloc _ _ _ (by simp)]; exact box2b w a b
  · have := box2a ((w.alloc a).alloc b) c d
    rw [show ((w.alloc a).alloc b).heap.size = w.heap.size + 2 by simp] at this
    exact this
  · have := box2b ((w.alloc a).alloc b) c d
    rw [show ((w.alloc a).alloc b).heap.size = w.heap.size + 2 by simp] at this
    exact this

set_option maxRecDepth 100000 in
set_option maxHeartbeats 1000000 in
theorem stored_create (h : Inw own w wb q bw bd ws ds ps m1 m2 none0) (hm1 : m1 ≤ m) (hm2 : m2 ≤ m) (hps : ps.length ≤ 2000000000000) {i : Nat} (hi : i < ps.length) {qb rb : Nat} (hqb : qb = ps[i].1) (hrb : rb = ps[i].2) (on a b : Int) (s : ByteArray) (o0 : Int) (o1 : ByteArray) (o2 o3 o4 o5 o6 o7 : Int) (o8 : Bool) (c0 c1 c2 p0 : Int) (p1 : ByteArray) (p2 p3 : Int) (ho0 : 0 ≤ o0) (ho1 : o0 ≤ 255) (hs1 : o1.size ≤ maxLen) :
    Calls Tryz.prog 30 #[.pointer (some ⟨wb, 0, none⟩), .agg #[.pointer (some ⟨qb, 0, none⟩), .pointer (some ⟨rb, 0, none⟩)], .agg #[.int .i64 2, .int .i64 on, .int .i64 a, .int .i64 b, .string s, .int .u8 o0, .string o1, .int .i64 o2, .int .i64 o3, .int .i64 o4, .int .i64 o5, .int .i64 o6, .int .u8 o7, .bool o8, .int .i64 c0, .int .i64 c1, .int .i64 c2, .int .u8 p0, .string p1, .int .i64 p2, .int .i64 p3]] w (Went own w wb q ps (m + 1)) := by
  obtain ⟨hB, x0, x1, x2, x3, hsz⟩ := box4 w (.cells #[.pointer (some ⟨qb, 0, none⟩), .pointer (some ⟨rb, 0, none⟩)] 91) (.cells #[.int .i64 2, .int .i64 on, .int .i64 a, .int .i64 b, .string s, .int .u8 o0, .string o1, .int .i64 o2, .int .i64 o3, .int .i64 o4, .int .i64 o5, .int .i64 o6, .int .u8 o7, .bool o8, .int .i64 c0, .int .i64 c1, .int .i64 c2, .int .u8 p0, .string p1, .int .i64 p2, .int .i64 p3] 86) (.cells #[.int .u8 0, .string ⟨#[]⟩, .int .i64 0, .int .i64 0, .int .i64 0, .int .i64 0, .int .i64 0, .int .u8 0, .bool false] 84) (.cells #[.int .u8 0, .string ⟨#[]⟩, .int .i64 0, .int .i64 0, .int .i64 0, .int .i64 0, .int .i64 0, .int .u8 0, .bool false] 84)
  have hI := h.below hB
  have hT0 := hI.th i hi id
  rw [← hqb, ← hrb] at hT0
  have hone : ∀ N, ownNew own w 0 N = 2 * i + 1 → 1 < N := by
    intro N e
    have h0 := (h.desk.below (a := 0) hB).oy
    have h1 := (h.desk.below (a := 0) hB).oz
    rcases Nat.lt_or_ge 1 N with hN | hN
    · exact hN
    · exfalso
      have : N = 0 ∨ N = 1 := by omega
      rcases this with rfl | rfl
      · rw [h0] at e; unfold ARG at e; omega
      · rw [h1] at e; unfold ARG at e; omega
  have hp := pair_create hT0 (h.desk.below (a := 0) hB).tab ⟨by rw [(h.desk.below (a := 0) hB).oz]; unfold ARG; omega, by rw [(h.desk.below (a := 0) hB).oz]; unfold ARG; omega⟩ (hone _ (hsb hT0)) (fun e => by have := hrf hT0; rw [e, (h.desk.below (a := 0) hB).oz] at this; unfold ARG at this; omega) (fun mb e => hone _ e) o0 o1 o2 o3 o4 o5 o6 o7 o8 ho0 ho1 hs1
  unfold PairOf at hp
  have HARG : Hid (2 * i + 2 < ARG) := by unfold Hid ARG; omega
  have HI : Hid (Inw own w wb q bw bd ws ds ps m1 m2 none0) := h
  have HIL : Hid (i < ps.length) := hi
  have HQ : Hid (qb = ps[i].1) := hqb
  have HR : Hid (rb = ps[i].2) := hrb
  have HM : Hid (m1 ≤ m ∧ m2 ≤ m) := ⟨hm1, hm2⟩
  have HB : Hid (Below w.heap.size w ((((w.alloc (.cells #[.pointer (some ⟨qb, 0, none⟩), .pointer (some ⟨rb, 0, none⟩)] 91)).alloc (.cells #[.int .i64 2, .int .i64 on, .int .i64 a, .int .i64 b, .string s, .int .u8 o0, .string o1, .int .i64 o2, .int .i64 o3, .int .i64 o4, .int .i64 o5, .int .i64 o6, .int .u8 o7, .bool o8, .int .i64 c0, .int .i64 c1, .int .i64 c2, .int .u8 p0, .string p1, .int .i64 p2, .int .i64 p3] 86)).alloc (.cells #[.int .u8 0, .string ⟨#[]⟩, .int .i64 0, .int .i64 0, .int .i64 0, .int .i64 0, .int .i64 0, .int .u8 0, .bool false] 84)).alloc (.cells #[.int .u8 0, .string ⟨#[]⟩, .int .i64 0, .int .i64 0, .int .i64 0, .int .i64 0, .int .i64 0, .int .u8 0, .bool false] 84))) := hB
  have HX0 : Hid _ := x0
  have HX1 : Hid _ := x1
  have HX2 : Hid _ := x2
  have HX3 : Hid _ := x3
  have HSZ : Hid _ := hsz
  clear hone h hI hT0 hqb hrb hps hB x0 x1 x2 x3 hsz hm1 hm2 hi
  go_enter Tryz.func30, Tryz.ntmps30
  go_wp2_with fail
  refine hp.mono ?_
  rintro e w3 ⟨o, er, rfl, k1, hp2⟩
  clear hp
  generalize ((((w.alloc (.cells #[.pointer (some ⟨qb, 0, none⟩), .pointer (some ⟨rb, 0, none⟩)] 91)).alloc (.cells #[.int .i64 2, .int .i64 on, .int .i64 a, .int .i64 b, .string s, .int .u8 o0, .string o1, .int .i64 o2, .int .i64 o3, .int .i64 o4, .int .i64 o5, .int .i64 o6, .int .u8 o7, .bool o8, .int .i64 c0, .int .i64 c1, .int .i64 c2, .int .u8 p0, .string p1, .int .i64 p2, .int .i64 p3] 86)).alloc (.cells #[.int .u8 0, .string ⟨#[]⟩, .int .i64 0, .int .i64 0, .int .i64 0, .int .i64 0, .int .i64 0, .int .u8 0, .bool false] 84)).alloc (.cells #[.int .u8 0, .string ⟨#[]⟩, .int .i64 0, .int .i64 0, .int .i64 0, .int .i64 0, .int .i64 0, .int .u8 0, .bool false] 84)) = W at *
  have nb : ∀ {k : Nat} {ob : Obj}, w.heap.size ≤ k → W.heap[k]? = some ob → w3.heap[k]? = some ob := fun hk hb => new_kept (by omega) k1 hk hb
  have b0 := nb (Nat.le_refl _) HX0.out
  have b1 := nb (by omega) HX1.out
  have b2 := nb (by omega) HX2.out
  have HB3 : Hid (w3.heap[w.heap.size + 3]? = some (.cells #[.int .u8 0, .string ⟨#[]⟩, .int .i64 0, .int .i64 0, .int .i64 0, .int .i64 0, .int .i64 0, .int .u8 0, .bool false] 84 (0, 0))) := nb (by omega) HX3.out
  have hl3 : w.heap.size + 3 < w3.heap.size := (Array.getElem?_eq_some_iff.1 HB3.out).1
  obtain ⟨⟨y0, y1, y2, y3, y4, y5, y6, y7, y8⟩, yf⟩ := nine b2
  have d0 : w3.cell? ⟨w.heap.size, 1, none⟩ = some (.pointer (some ⟨rb, 0, none⟩)) := by simp [World.cell?, b0]
  have e2 : w3.cell? ⟨w.heap.size + 1, 2, none⟩ = some (.int .i64 a) := by simp [World.cell?, b1]
  have e4 : w3.cell? ⟨w.heap.size + 1, 4, none⟩ = some (.string s) := by simp [World.cell?, b1]
  have e5 : w3.cell? ⟨w.heap.size + 1, 5, none⟩ = some (.int .u8 o0) := by simp [World.cell?, b1]
  have e6 : w3.cell? ⟨w.heap.size + 1, 6, none⟩ = some (.string o1) := by simp [World.cell?, b1]
  have e7 : w3.cell? ⟨w.heap.size + 1, 7, none⟩ = some (.int .i64 o2) := by simp [World.cell?, b1]
  have e8 : w3.cell? ⟨w.heap.size + 1, 8, none⟩ = some (.int .i64 o3) := by simp [World.cell?, b1]
  have e9 : w3.cell? ⟨w.heap.size + 1, 9, none⟩ = some (.int .i64 o4) := by simp [World.cell?, b1]
  have e10 : w3.cell? ⟨w.heap.size + 1, 10, none⟩ = some (.int .i64 o5) := by simp [World.cell?, b1]
  have e11 : w3.cell? ⟨w.heap.size + 1, 11, none⟩ = some (.int .i64 o6) := by simp [World.cell?, b1]
  have e12 : w3.cell? ⟨w.heap.size + 1, 12, none⟩ = some (.int .u8 o7) := by simp [World.cell?, b1]
  have e13 : w3.cell? ⟨w.heap.size + 1, 13, none⟩ = some (.bool o8) := by simp [World.cell?, b1]
  have K1 : Hid _ := k1
  obtain ⟨q0, q1, q2, q3, q4, q5, q6, q7, q8⟩ := o
  have own2 : ∀ {N : Nat}, w.heap.size ≤ N → N < W.heap.size → ownNew (ownNew own w 0) W (2 * i + 1) N = 0 := fun h1 h2 => (ownNew_old h2).trans (ownNew_new h1)
  have hsz := HSZ.out
  have HKA : Hid (KeptC (Others (ownNew (ownNew own w 0) W (2 * i + 1)) w3 0) w3 (set9 w3 (w.heap.size + 2) (.int .u8 q0) (.string q1) (.int .i64 q2) (.int .i64 q3) (.int .i64 q4) (.int .i64 q5) (.int .i64 q6) (.int .u8 q7) (.bool q8))) := set9_keptC (fun hO => hO.2 (own2 (by omega) (by omega))) _ _ _ _ _ _ _ _ _
  have HKA' : Hid (∀ b, b < w.heap.size → (set9 w3 (w.heap.size + 2) (.int .u8 q0) (.string q1) (.int .i64 q2) (.int .i64 q3) (.int .i64 q4) (.int .i64 q5) (.int .i64 q6) (.int .u8 q7) (.bool q8)).heap[b]? = w3.heap[b]?) := fun b hb => set9_other _ _ _ _ _ _ _ _ _ _ _ _ (by omega)
  have hp3 := hp2 _ HKA.out
  have HA2 : Hid ((set9 w3 (w.heap.size + 2) (.int .u8 q0) (.string q1) (.int .i64 q2) (.int .i64 q3) (.int .i64 q4) (.int .i64 q5) (.int .i64 q6) (.int .u8 q7) (.bool q8)).heap[w.heap.size + 2]? = some (.cells #[.int .u8 q0, .string q1, .int .i64 q2, .int .i64 q3, .int .i64 q4, .int .i64 q5, .int .i64 q6, .int .u8 q7, .bool q8] 84 (0, 0))) := set9_same _ _ _ _ _ _ _ _ _ b2
  have HA3 : Hid ((set9 w3 (w.heap.size + 2) (.int .u8 q0) (.string q1) (.int .i64 q2) (.int .i64 q3) (.int .i64 q4) (.int .i64 q5) (.int .i64 q6) (.int .u8 q7) (.bool q8)).heap[w.heap.size + 3]? = some (.cells #[.int .u8 0, .string ⟨#[]⟩, .int .i64 0, .int .i64 0, .int .i64 0, .int .i64 0, .int .i64 0, .int .u8 0, .bool false] 84 (0, 0))) := (set9_other _ _ _ _ _ _ _ _ _ _ _ _ (by omega)).trans HB3.out
  rw [set9_def] at hp3
  simp only [Ob.arr] at hp3
  have hs3 := k1.size
  clear k1 hp2 b0 b1 b2
  simp only [Ob.arr]
  go_wp2_with fail
  refine hp3.mono ?_
  rintro e w4 ⟨rfl, k2, hT⟩
  rw [← set9_def] at k2 hT
  clear hp3
  generalize set9 w3 (w.heap.size + 2) (.int .u8 q0) (.string q1) (.int .i64 q2) (.int .i64 q3) (.int .i64 q4) (.int .i64 q5) (.int .i64 q6) (.int .u8 q7) (.bool q8) = W3 at *
  have own3 : ∀ {N : Nat}, w.heap.size ≤ N → N < W.heap.size → ownNew (ownNew (ownNew own w 0) W (2 * i + 1)) w3 0 N = 0 := fun h1 h2 => (ownNew_old (by omega)).trans (own2 h1 h2)
  have a2 := (k2.block (w.heap.size + 2) ⟨(Array.getElem?_eq_some_iff.1 HA2.out).1, by rw [own3 (by omega) (by omega)]; omega⟩ (Array.getElem?_eq_some_iff.1 HA2.out).1).trans HA2.out
  have a3 := (k2.block (w.heap.size + 3) ⟨(Array.getElem?_eq_some_iff.1 HA3.out).1, by rw [own3 (by omega) (by omega)]; omega⟩ (Array.getElem?_eq_some_iff.1 HA3.out).1).trans HA3.out
  have hl4 : w.heap.size + 3 < w4.heap.size := (Array.getElem?_eq_some_iff.1 a3).1
  have hl42 : w.heap.size + 2 < w4.heap.size := by omega
  have hn1 : w.heap.size + 2 ≠ w.heap.size + 3 := by omega
  have sA := HKA.out.size
  have own4 : ∀ {N : Nat}, w.heap.size ≤ N → N < W.heap.size → ownNew (ownNew (ownNew (ownNew own w 0) W (2 * i + 1)) w3 0) W3 (2 * i + 2) N = 0 := fun h1 h2 => (ownNew_old (by omega)).trans (own3 h1 h2)
  have HF : Hid (∃ own' bw bd ws ds m1 m2, Inw own' (set9 w4 (w.heap.size + 3) (.int .u8 q0) (.string q1) (.int .i64 q2) (.int .i64 q3) (.int .i64 q4) (.int .i64 q5) (.int .i64 q6) (.int .u8 q7) (.bool q8)) wb q bw bd ws ds ps m1 m2 none0 ∧ m1 ≤ m + 1 ∧ m2 ≤ m + 1 ∧ Moves own w own' (set9 w4 (w.heap.size + 3) (.int .u8 q0) (.string q1) (.int .i64 q2) (.int .i64 q3) (.int .i64 q4) (.int .i64 q5) (.int .i64 q6) (.int .u8 q7) (.bool q8))) := by
    obtain ⟨own', hI5, hM5⟩ := HI.out.fin HARG.out HIL.out HB.out K1.out HKA.out HKA'.out k2 (set9_keptC (N := w.heap.size + 3) (fun hO => hO.2 (own4 (by omega) (by omega))) (.int .u8 q0) (.string q1) (.int .i64 q2) (.int .i64 q3) (.int .i64 q4) (.int .i64 q5) (.int .i64 q6) (.int .u8 q7) (.bool q8)) (fun b hb => set9_other _ _ _ _ _ _ _ _ _ _ _ _ (by omega)) HQ.out HR.out hT
    exact ⟨own', bw, bd, ws, ds, m1, m2, hI5, by have := HM.out.1; omega, by have := HM.out.2; omega, hM5⟩
  obtain ⟨⟨z0, z1, z2, z3, z4, z5, z6, z7, z8⟩, zf⟩ := nine a3
  obtain ⟨⟨u0, u1, u2, u3, u4, u5, u6, u7, u8⟩, uf⟩ := nine a2
  have heq := eq29 q0 q1 q2 q3 q4 q5 q6 q7 q8 q0 q1 q2 q3 q4 q5 q6 q7 q8
  rw [eqB_self] at heq
  have hgd := guard29
  clear k2 hT a2 a3 y0 y1 y2 y3 y4 y5 y6 y7 y8 yf d0 e2 e4 e5 e6 e7 e8 e9 e10 e11 e12 e13 own2 own3 own4 nb sA hs3 hsz hl3
  go_wp2
  go_ret
  rw [← set9_def]
  exact ⟨rfl, HF.out⟩

set_option maxRecDepth 100000 in
set_option maxHeartbeats 1000000 in
theorem stored_get (h : Inw own w wb q bw bd ws ds ps m1 m2 none0) (hm1 : m1 ≤ m) (hm2 : m2 ≤ m) (hps : ps.length ≤ 2000000000000) {i : Nat} (hi : i < ps.length) {qb rb : Nat} (hqb : qb = ps[i].1) (hrb : rb = ps[i].2) (on a b : Int) (s : ByteArray) (o0 : Int) (o1 : ByteArray) (o2 o3 o4 o5 o6 o7 : Int) (o8 : Bool) (c0 c1 c2 p0 : Int) (p1 : ByteArray) (p2 p3 : Int) (ho0 : 0 ≤ o0) (ho1 : o0 ≤ 255) (hs : s.size ≤ maxLen) :
    Calls Tryz.prog 30 #[.pointer (some ⟨wb, 0, none⟩), .agg #[.pointer (some ⟨qb, 0, none⟩), .pointer (some ⟨rb, 0, none⟩)], .agg #[.int .i64 3, .int .i64 on, .int .i64 a, .int .i64 b, .string s, .int .u8 o0, .string o1, .int .i64 o2, .int .i64 o3, .int .i64 o4, .int .i64 o5, .int .i64 o6, .int .u8 o7, .bool o8, .int .i64 c0, .int .i64 c1, .int .i64 c2, .int .u8 p0, .string p1, .int .i64 p2, .int .i64 p3]] w (Went own w wb q ps (m + 1)) := by
  obtain ⟨hB, x0, x1, x2, x3, hsz⟩ := box4 w (.cells #[.pointer (some ⟨qb, 0, none⟩), .pointer (some ⟨rb, 0, none⟩)] 91) (.cells #[.int .i64 3, .int .i64 on, .int .i64 a, .int .i64 b, .string s, .int .u8 o0, .string o1, .int .i64 o2, .int .i64 o3, .int .i64 o4, .int .i64 o5, .int .i64 o6, .int .u8 o7, .bool o8, .int .i64 c0, .int .i64 c1, .int .i64 c2, .int .u8 p0, .string p1, .int .i64 p2, .int .i64 p3] 86) (.cells #[.int .u8 0, .string ⟨#[]⟩, .int .i64 0, .int .i64 0, .int .i64 0, .int .i64 0, .int .i64 0, .int .u8 0, .bool false] 84) (.cells #[.int .u8 0, .string ⟨#[]⟩, .int .i64 0, .int .i64 0, .int .i64 0, .int .i64 0, .int .i64 0, .int .u8 0, .bool false] 84)
  have hI := h.below hB
  have hT0 := hI.th i hi id
  rw [← hqb, ← hrb] at hT0
  have hp := pair_get hT0 o0 s ho0 ho1 hs
  unfold PairOf at hp
  have HARG : Hid (2 * i + 2 < ARG) := by unfold Hid ARG; omega
  have HI : Hid (Inw own w wb q bw bd ws ds ps m1 m2 none0) := h
  have HIL : Hid (i < ps.length) := hi
  have HQ : Hid (qb = ps[i].1) := hqb
  have HR : Hid (rb = ps[i].2) := hrb
  have HM : Hid (m1 ≤ m ∧ m2 ≤ m) := ⟨hm1, hm2⟩
  have HB : Hid (Below w.heap.size w ((((w.alloc (.cells #[.pointer (some ⟨qb, 0, none⟩), .pointer (some ⟨rb, 0, none⟩)] 91)).alloc (.cells #[.int .i64 3, .int .i64 on, .int .i64 a, .int .i64 b, .string s, .int .u8 o0, .string o1, .int .i64 o2, .int .i64 o3, .int .i64 o4, .int .i64 o5, .int .i64 o6, .int .u8 o7, .bool o8, .int .i64 c0, .int .i64 c1, .int .i64 c2, .int .u8 p0, .string p1, .int .i64 p2, .int .i64 p3] 86)).alloc (.cells #[.int .u8 0, .string ⟨#[]⟩, .int .i64 0, .int .i64 0, .int .i64 0, .int .i64 0, .int .i64 0, .int .u8 0, .bool false] 84)).alloc (.cells #[.int .u8 0, .string ⟨#[]⟩, .int .i64 0, .int .i64 0, .int .i64 0, .int .i64 0, .int .i64 0, .int .u8 0, .bool false] 84))) := hB
  have HX0 : Hid _ := x0
  have HX1 : Hid _ := x1
  have HX2 : Hid _ := x2
  have HX3 : Hid _ := x3
  have HSZ : Hid _ := hsz
  clear h hI hT0 hqb hrb hps hB x0 x1 x2 x3 hsz hm1 hm2 hi
  go_enter Tryz.func30, Tryz.ntmps30
  go_wp2_with fail
  refine hp.mono ?_
  rintro e w3 ⟨o, er, rfl, k1, hp2⟩
  clear hp
  generalize ((((w.alloc (.cells #[.pointer (some ⟨qb, 0, none⟩), .pointer (some ⟨rb, 0, none⟩)] 91)).alloc (.cells #[.int .i64 3, .int .i64 on, .int .i64 a, .int .i64 b, .string s, .int .u8 o0, .string o1, .int .i64 o2, .int .i64 o3, .int .i64 o4, .int .i64 o5, .int .i64 o6, .int .u8 o7, .bool o8, .int .i64 c0, .int .i64 c1, .int .i64 c2, .int .u8 p0, .string p1, .int .i64 p2, .int .i64 p3] 86)).alloc (.cells #[.int .u8 0, .string ⟨#[]⟩, .int .i64 0, .int .i64 0, .int .i64 0, .int .i64 0, .int .i64 0, .int .u8 0, .bool false] 84)).alloc (.cells #[.int .u8 0, .string ⟨#[]⟩, .int .i64 0, .int .i64 0, .int .i64 0, .int .i64 0, .int .i64 0, .int .u8 0, .bool false] 84)) = W at *
  have nb : ∀ {k : Nat} {ob : Obj}, w.heap.size ≤ k → W.heap[k]? = some ob → w3.heap[k]? = some ob := fun hk hb => new_kept (by omega) k1 hk hb
  have b0 := nb (Nat.le_refl _) HX0.out
  have b1 := nb (by omega) HX1.out
  have b2 := nb (by omega) HX2.out
  have HB3 : Hid (w3.heap[w.heap.size + 3]? = some (.cells #[.int .u8 0, .string ⟨#[]⟩, .int .i64 0, .int .i64 0, .int .i64 0, .int .i64 0, .int .i64 0, .int .u8 0, .bool false] 84 (0, 0))) := nb (by omega) HX3.out
  have hl3 : w.heap.size + 3 < w3.heap.size := (Array.getElem?_eq_some_iff.1 HB3.out).1
  obtain ⟨⟨y0, y1, y2, y3, y4, y5, y6, y7, y8⟩, yf⟩ := nine b2
  have d0 : w3.cell? ⟨w.heap.size, 1, none⟩ = some (.pointer (some ⟨rb, 0, none⟩)) := by simp [World.cell?, b0]
  have e2 : w3.cell? ⟨w.heap.size + 1, 2, none⟩ = some (.int .i64 a) := by simp [World.cell?, b1]
  have e4 : w3.cell? ⟨w.heap.size + 1, 4, none⟩ = some (.string s) := by simp [World.cell?, b1]
  have e5 : w3.cell? ⟨w.heap.size + 1, 5, none⟩ = some (.int .u8 o0) := by simp [World.cell?, b1]
  have e6 : w3.cell? ⟨w.heap.size + 1, 6, none⟩ = some (.string o1) := by simp [World.cell?, b1]
  have e7 : w3.cell? ⟨w.heap.size + 1, 7, none⟩ = some (.int .i64 o2) := by simp [World.cell?, b1]
  have e8 : w3.cell? ⟨w.heap.size + 1, 8, none⟩ = some (.int .i64 o3) := by simp [World.cell?, b1]
  have e9 : w3.cell? ⟨w.heap.size + 1, 9, none⟩ = some (.int .i64 o4) := by simp [World.cell?, b1]
  have e10 : w3.cell? ⟨w.heap.size + 1, 10, none⟩ = some (.int .i64 o5) := by simp [World.cell?, b1]
  have e11 : w3.cell? ⟨w.heap.size + 1, 11, none⟩ = some (.int .i64 o6) := by simp [World.cell?, b1]
  have e12 : w3.cell? ⟨w.heap.size + 1, 12, none⟩ = some (.int .u8 o7) := by simp [World.cell?, b1]
  have e13 : w3.cell? ⟨w.heap.size + 1, 13, none⟩ = some (.bool o8) := by simp [World.cell?, b1]
  have K1 : Hid _ := k1
  obtain ⟨q0, q1, q2, q3, q4, q5, q6, q7, q8⟩ := o
  have own2 : ∀ {N : Nat}, w.heap.size ≤ N → N < W.heap.size → ownNew (ownNew own w 0) W (2 * i + 1) N = 0 := fun h1 h2 => (ownNew_old h2).trans (ownNew_new h1)
  have hsz := HSZ.out
  have HKA : Hid (KeptC (Others (ownNew (ownNew own w 0) W (2 * i + 1)) w3 0) w3 (set9 w3 (w.heap.size + 2) (.int .u8 q0) (.string q1) (.int .i64 q2) (.int .i64 q3) (.int .i64 q4) (.int .i64 q5) (.int .i64 q6) (.int .u8 q7) (.bool q8))) := set9_keptC (fun hO => hO.2 (own2 (by omega) (by omega))) _ _ _ _ _ _ _ _ _
  have HKA' : Hid (∀ b, b < w.heap.size → (set9 w3 (w.heap.size + 2) (.int .u8 q0) (.string q1) (.int .i64 q2) (.int .i64 q3) (.int .i64 q4) (.int .i64 q5) (.int .i64 q6) (.int .u8 q7) (.bool q8)).heap[b]? = w3.heap[b]?) := fun b hb => set9_other _ _ _ _ _ _ _ _ _ _ _ _ (by omega)
  have hp3 := hp2 _ HKA.out
  have HA2 : Hid ((set9 w3 (w.heap.size + 2) (.int .u8 q0) (.string q1) (.int .i64 q2) (.int .i64 q3) (.int .i64 q4) (.int .i64 q5) (.int .i64 q6) (.int .u8 q7) (.bool q8)).heap[w.heap.size + 2]? = some (.cells #[.int .u8 q0, .string q1, .int .i64 q2, .int .i64 q3, .int .i64 q4, .int .i64 q5, .int .i64 q6, .int .u8 q7, .bool q8] 84 (0, 0))) := set9_same _ _ _ _ _ _ _ _ _ b2
  have HA3 : Hid ((set9 w3 (w.heap.size + 2) (.int .u8 q0) (.string q1) (.int .i64 q2) (.int .i64 q3) (.int .i64 q4) (.int .i64 q5) (.int .i64 q6) (.int .u8 q7) (.bool q8)).heap[w.heap.size + 3]? = some (.cells #[.int .u8 0, .string ⟨#[]⟩, .int .i64 0, .int .i64 0, .int .i64 0, .int .i64 0, .int .i64 0, .int .u8 0, .bool false] 84 (0, 0))) := (set9_other _ _ _ _ _ _ _ _ _ _ _ _ (by omega)).trans HB3.out
  rw [set9_def] at hp3
  simp only [Ob.arr] at hp3
  have hs3 := k1.size
  clear k1 hp2 b0 b1 b2
  simp only [Ob.arr]
  go_wp2_with fail
  refine hp3.mono ?_
  rintro e w4 ⟨rfl, k2, hT⟩
  rw [← set9_def] at k2 hT
  clear hp3
  generalize set9 w3 (w.heap.size + 2) (.int .u8 q0) (.string q1) (.int .i64 q2) (.int .i64 q3) (.int .i64 q4) (.int .i64 q5) (.int .i64 q6) (.int .u8 q7) (.bool q8) = W3 at *
  have own3 : ∀ {N : Nat}, w.heap.size ≤ N → N < W.heap.size → ownNew (ownNew (ownNew own w 0) W (2 * i + 1)) w3 0 N = 0 := fun h1 h2 => (ownNew_old (by omega)).trans (own2 h1 h2)
  have a2 := (k2.block (w.heap.size + 2) ⟨(Array.getElem?_eq_some_iff.1 HA2.out).1, by rw [own3 (by omega) (by omega)]; omega⟩ (Array.getElem?_eq_some_iff.1 HA2.out).1).trans HA2.out
  have a3 := (k2.block (w.heap.size + 3) ⟨(Array.getElem?_eq_some_iff.1 HA3.out).1, by rw [own3 (by omega) (by omega)]; omega⟩ (Array.getElem?_eq_some_iff.1 HA3.out).1).trans HA3.out
  have hl4 : w.heap.size + 3 < w4.heap.size := (Array.getElem?_eq_some_iff.1 a3).1
  have hl42 : w.heap.size + 2 < w4.heap.size := by omega
  have hn1 : w.heap.size + 2 ≠ w.heap.size + 3 := by omega
  have sA := HKA.out.size
  have own4 : ∀ {N : Nat}, w.heap.size ≤ N → N < W.heap.size → ownNew (ownNew (ownNew (ownNew own w 0) W (2 * i + 1)) w3 0) W3 (2 * i + 2) N = 0 := fun h1 h2 => (ownNew_old (by omega)).trans (own3 h1 h2)
  have HF : Hid (∃ own' bw bd ws ds m1 m2, Inw own' (set9 w4 (w.heap.size + 3) (.int .u8 q0) (.string q1) (.int .i64 q2) (.int .i64 q3) (.int .i64 q4) (.int .i64 q5) (.int .i64 q6) (.int .u8 q7) (.bool q8)) wb q bw bd ws ds ps m1 m2 none0 ∧ m1 ≤ m + 1 ∧ m2 ≤ m + 1 ∧ Moves own w own' (set9 w4 (w.heap.size + 3) (.int .u8 q0) (.string q1) (.int .i64 q2) (.int .i64 q3) (.int .i64 q4) (.int .i64 q5) (.int .i64 q6) (.int .u8 q7) (.bool q8))) := by
    obtain ⟨own', hI5, hM5⟩ := HI.out.fin HARG.out HIL.out HB.out K1.out HKA.out HKA'.out k2 (set9_keptC (N := w.heap.size + 3) (fun hO => hO.2 (own4 (by omega) (by omega))) (.int .u8 q0) (.string q1) (.int .i64 q2) (.int .i64 q3) (.int .i64 q4) (.int .i64 q5) (.int .i64 q6) (.int .u8 q7) (.bool q8)) (fun b hb => set9_other _ _ _ _ _ _ _ _ _ _ _ _ (by omega)) HQ.out HR.out hT
    exact ⟨own', bw, bd, ws, ds, m1, m2, hI5, by have := HM.out.1; omega, by have := HM.out.2; omega, hM5⟩
  obtain ⟨⟨z0, z1, z2, z3, z4, z5, z6, z7, z8⟩, zf⟩ := nine a3
  obtain ⟨⟨u0, u1, u2, u3, u4, u5, u6, u7, u8⟩, uf⟩ := nine a2
  have heq := eq29 q0 q1 q2 q3 q4 q5 q6 q7 q8 q0 q1 q2 q3 q4 q5 q6 q7 q8
  rw [eqB_self] at heq
  have hgd := guard29
  clear k2 hT a2 a3 y0 y1 y2 y3 y4 y5 y6 y7 y8 yf d0 e2 e4 e5 e6 e7 e8 e9 e10 e11 e12 e13 own2 own3 own4 nb sA hs3 hsz hl3
  go_wp2
  go_ret
  rw [← set9_def]
  exact ⟨rfl, HF.out⟩

set_option maxRecDepth 100000 in
set_option maxHeartbeats 1000000 in
theorem stored_update (h : Inw own w wb q bw bd ws ds ps m1 m2 none0) (hm1 : m1 ≤ m) (hm2 : m2 ≤ m) (hps : ps.length ≤ 2000000000000) {i : Nat} (hi : i < ps.length) {qb rb : Nat} (hqb : qb = ps[i].1) (hrb : rb = ps[i].2) (on a b : Int) (s : ByteArray) (o0 : Int) (o1 : ByteArray) (o2 o3 o4 o5 o6 o7 : Int) (o8 : Bool) (c0 c1 c2 p0 : Int) (p1 : ByteArray) (p2 p3 : Int) (ho0 : 0 ≤ o0) (ho1 : o0 ≤ 255) (hs1 : o1.size ≤ maxLen) :
    Calls Tryz.prog 30 #[.pointer (some ⟨wb, 0, none⟩), .agg #[.pointer (some ⟨qb, 0, none⟩), .pointer (some ⟨rb, 0, none⟩)], .agg #[.int .i64 5, .int .i64 on, .int .i64 a, .int .i64 b, .string s, .int .u8 o0, .string o1, .int .i64 o2, .int .i64 o3, .int .i64 o4, .int .i64 o5, .int .i64 o6, .int .u8 o7, .bool o8, .int .i64 c0, .int .i64 c1, .int .i64 c2, .int .u8 p0, .string p1, .int .i64 p2, .int .i64 p3]] w (Went own w wb q ps (m + 1)) := by
  obtain ⟨hB, x0, x1, x2, x3, hsz⟩ := box4 w (.cells #[.pointer (some ⟨qb, 0, none⟩), .pointer (some ⟨rb, 0, none⟩)] 91) (.cells #[.int .i64 5, .int .i64 on, .int .i64 a, .int .i64 b, .string s, .int .u8 o0, .string o1, .int .i64 o2, .int .i64 o3, .int .i64 o4, .int .i64 o5, .int .i64 o6, .int .u8 o7, .bool o8, .int .i64 c0, .int .i64 c1, .int .i64 c2, .int .u8 p0, .string p1, .int .i64 p2, .int .i64 p3] 86) (.cells #[.int .u8 0, .string ⟨#[]⟩, .int .i64 0, .int .i64 0, .int .i64 0, .int .i64 0, .int .i64 0, .int .u8 0, .bool false] 84) (.cells #[.int .u8 0, .string ⟨#[]⟩, .int .i64 0, .int .i64 0, .int .i64 0, .int .i64 0, .int .i64 0, .int .u8 0, .bool false] 84)
  have hI := h.below hB
  have hT0 := hI.th i hi id
  rw [← hqb, ← hrb] at hT0
  have hp := pair_update hT0 o0 o1 o2 o3 o4 o5 o6 o7 o8 ho0 ho1 hs1
  unfold PairOf at hp
  have HARG : Hid (2 * i + 2 < ARG) := by unfold Hid ARG; omega
  have HI : Hid (Inw own w wb q bw bd ws ds ps m1 m2 none0) := h
  have HIL : Hid (i < ps.length) := hi
  have HQ : Hid (qb = ps[i].1) := hqb
  have HR : Hid (rb = ps[i].2) := hrb
  have HM : Hid (m1 ≤ m ∧ m2 ≤ m) := ⟨hm1, hm2⟩
  have HB : Hid (Below w.heap.size w ((((w.alloc (.cells #[.pointer (some ⟨qb, 0, none⟩), .pointer (some ⟨rb, 0, none⟩)] 91)).alloc (.cells #[.int .i64 5, .int .i64 on, .int .i64 a, .int .i64 b, .string s, .int .u8 o0, .string o1, .int .i64 o2, .int .i64 o3, .int .i64 o4, .int .i64 o5, .int .i64 o6, .int .u8 o7, .bool o8, .int .i64 c0, .int .i64 c1, .int .i64 c2, .int .u8 p0, .string p1, .int .i64 p2, .int .i64 p3] 86)).alloc (.cells #[.int .u8 0, .string ⟨#[]⟩, .int .i64 0, .int .i64 0, .int .i64 0, .int .i64 0, .int .i64 0, .int .u8 0, .bool false] 84)).alloc (.cells #[.int .u8 0, .string ⟨#[]⟩, .int .i64 0, .int .i64 0, .int .i64 0, .int .i64 0, .int .i64 0, .int .u8 0, .bool false] 84))) := hB
  have HX0 : Hid _ := x0
  have HX1 : Hid _ := x1
  have HX2 : Hid _ := x2
  have HX3 : Hid _ := x3
  have HSZ : Hid _ := hsz
  clear h hI hT0 hqb hrb hps hB x0 x1 x2 x3 hsz hm1 hm2 hi
  go_enter Tryz.func30, Tryz.ntmps30
  go_wp2_with fail
  refine hp.mono ?_
  rintro e w3 ⟨o, er, rfl, k1, hp2⟩
  clear hp
  generalize ((((w.alloc (.cells #[.pointer (some ⟨qb, 0, none⟩), .pointer (some ⟨rb, 0, none⟩)] 91)).alloc (.cells #[.int .i64 5, .int .i64 on, .int .i64 a, .int .i64 b, .string s, .int .u8 o0, .string o1, .int .i64 o2, .int .i64 o3, .int .i64 o4, .int .i64 o5, .int .i64 o6, .int .u8 o7, .bool o8, .int .i64 c0, .int .i64 c1, .int .i64 c2, .int .u8 p0, .string p1, .int .i64 p2, .int .i64 p3] 86)).alloc (.cells #[.int .u8 0, .string ⟨#[]⟩, .int .i64 0, .int .i64 0, .int .i64 0, .int .i64 0, .int .i64 0, .int .u8 0, .bool false] 84)).alloc (.cells #[.int .u8 0, .string ⟨#[]⟩, .int .i64 0, .int .i64 0, .int .i64 0, .int .i64 0, .int .i64 0, .int .u8 0, .bool false] 84)) = W at *
  have nb : ∀ {k : Nat} {ob : Obj}, w.heap.size ≤ k → W.heap[k]? = some ob → w3.heap[k]? = some ob := fun hk hb => new_kept (by omega) k1 hk hb
  have b0 := nb (Nat.le_refl _) HX0.out
  have b1 := nb (by omega) HX1.out
  have b2 := nb (by omega) HX2.out
  have HB3 : Hid (w3.heap[w.heap.size + 3]? = some (.cells #[.int .u8 0, .string ⟨#[]⟩, .int .i64 0, .int .i64 0, .int .i64 0, .int .i64 0, .int .i64 0, .int .u8 0, .bool false] 84 (0, 0))) := nb (by omega) HX3.out
  have hl3 : w.heap.size + 3 < w3.heap.size := (Array.getElem?_eq_some_iff.1 HB3.out).1
  obtain ⟨⟨y0, y1, y2, y3, y4, y5, y6, y7, y8⟩, yf⟩ := nine b2
  have d0 : w3.cell? ⟨w.heap.size, 1, none⟩ = some (.pointer (some ⟨rb, 0, none⟩)) := by simp [World.cell?, b0]
  have e2 : w3.cell? ⟨w.heap.size + 1, 2, none⟩ = some (.int .i64 a) := by simp [World.cell?, b1]
  have e4 : w3.cell? ⟨w.heap.size + 1, 4, none⟩ = some (.string s) := by simp [World.cell?, b1]
  have e5 : w3.cell? ⟨w.heap.size + 1, 5, none⟩ = some (.int .u8 o0) := by simp [World.cell?, b1]
  have e6 : w3.cell? ⟨w.heap.size + 1, 6, none⟩ = some (.string o1) := by simp [World.cell?, b1]
  have e7 : w3.cell? ⟨w.heap.size + 1, 7, none⟩ = some (.int .i64 o2) := by simp [World.cell?, b1]
  have e8 : w3.cell? ⟨w.heap.size + 1, 8, none⟩ = some (.int .i64 o3) := by simp [World.cell?, b1]
  have e9 : w3.cell? ⟨w.heap.size + 1, 9, none⟩ = some (.int .i64 o4) := by simp [World.cell?, b1]
  have e10 : w3.cell? ⟨w.heap.size + 1, 10, none⟩ = some (.int .i64 o5) := by simp [World.cell?, b1]
  have e11 : w3.cell? ⟨w.heap.size + 1, 11, none⟩ = some (.int .i64 o6) := by simp [World.cell?, b1]
  have e12 : w3.cell? ⟨w.heap.size + 1, 12, none⟩ = some (.int .u8 o7) := by simp [World.cell?, b1]
  have e13 : w3.cell? ⟨w.heap.size + 1, 13, none⟩ = some (.bool o8) := by simp [World.cell?, b1]
  have K1 : Hid _ := k1
  obtain ⟨q0, q1, q2, q3, q4, q5, q6, q7, q8⟩ := o
  have own2 : ∀ {N : Nat}, w.heap.size ≤ N → N < W.heap.size → ownNew (ownNew own w 0) W (2 * i + 1) N = 0 := fun h1 h2 => (ownNew_old h2).trans (ownNew_new h1)
  have hsz := HSZ.out
  have HKA : Hid (KeptC (Others (ownNew (ownNew own w 0) W (2 * i + 1)) w3 0) w3 (set9 w3 (w.heap.size + 2) (.int .u8 q0) (.string q1) (.int .i64 q2) (.int .i64 q3) (.int .i64 q4) (.int .i64 q5) (.int .i64 q6) (.int .u8 q7) (.bool q8))) := set9_keptC (fun hO => hO.2 (own2 (by omega) (by omega))) _ _ _ _ _ _ _ _ _
  have HKA' : Hid (∀ b, b < w.heap.size → (set9 w3 (w.heap.size + 2) (.int .u8 q0) (.string q1) (.int .i64 q2) (.int .i64 q3) (.int .i64 q4) (.int .i64 q5) (.int .i64 q6) (.int .u8 q7) (.bool q8)).heap[b]? = w3.heap[b]?) := fun b hb => set9_other _ _ _ _ _ _ _ _ _ _ _ _ (by omega)
  have hp3 := hp2 _ HKA.out
  have HA2 : Hid ((set9 w3 (w.heap.size + 2) (.int .u8 q0) (.string q1) (.int .i64 q2) (.int .i64 q3) (.int .i64 q4) (.int .i64 q5) (.int .i64 q6) (.int .u8 q7) (.bool q8)).heap[w.heap.size + 2]? = some (.cells #[.int .u8 q0, .string q1, .int .i64 q2, .int .i64 q3, .int .i64 q4, .int .i64 q5, .int .i64 q6, .int .u8 q7, .bool q8] 84 (0, 0))) := set9_same _ _ _ _ _ _ _ _ _ b2
  have HA3 : Hid ((set9 w3 (w.heap.size + 2) (.int .u8 q0) (.string q1) (.int .i64 q2) (.int .i64 q3) (.int .i64 q4) (.int .i64 q5) (.int .i64 q6) (.int .u8 q7) (.bool q8)).heap[w.heap.size + 3]? = some (.cells #[.int .u8 0, .string ⟨#[]⟩, .int .i64 0, .int .i64 0, .int .i64 0, .int .i64 0, .int .i64 0, .int .u8 0, .bool false] 84 (0, 0))) := (set9_other _ _ _ _ _ _ _ _ _ _ _ _ (by omega)).trans HB3.out
  rw [set9_def] at hp3
  simp only [Ob.arr] at hp3
  have hs3 := k1.size
  clear k1 hp2 b0 b1 b2
  simp only [Ob.arr]
  go_wp2_with fail
  refine hp3.mono ?_
  rintro e w4 ⟨rfl, k2, hT⟩
  rw [← set9_def] at k2 hT
  clear hp3
  generalize set9 w3 (w.heap.size + 2) (.int .u8 q0) (.string q1) (.int .i64 q2) (.int .i64 q3) (.int .i64 q4) (.int .i64 q5) (.int .i64 q6) (.int .u8 q7) (.bool q8) = W3 at *
  have own3 : ∀ {N : Nat}, w.heap.size ≤ N → N < W.heap.size → ownNew (ownNew (ownNew own w 0) W (2 * i + 1)) w3 0 N = 0 := fun h1 h2 => (ownNew_old (by omega)).trans (own2 h1 h2)
  have a2 := (k2.block (w.heap.size + 2) ⟨(Array.getElem?_eq_some_iff.1 HA2.out).1, by rw [own3 (by omega) (by omega)]; omega⟩ (Array.getElem?_eq_some_iff.1 HA2.out).1).trans HA2.out
  have a3 := (k2.block (w.heap.size + 3) ⟨(Array.getElem?_eq_some_iff.1 HA3.out).1, by rw [own3 (by omega) (by omega)]; omega⟩ (Array.getElem?_eq_some_iff.1 HA3.out).1).trans HA3.out
  have hl4 : w.heap.size + 3 < w4.heap.size := (Array.getElem?_eq_some_iff.1 a3).1
  have hl42 : w.heap.size + 2 < w4.heap.size := by omega
  have hn1 : w.heap.size + 2 ≠ w.heap.size + 3 := by omega
  have sA := HKA.out.size
  have own4 : ∀ {N : Nat}, w.heap.size ≤ N → N < W.heap.size → ownNew (ownNew (ownNew (ownNew own w 0) W (2 * i + 1)) w3 0) W3 (2 * i + 2) N = 0 := fun h1 h2 => (ownNew_old (by omega)).trans (own3 h1 h2)
  have HF : Hid (∃ own' bw bd ws ds m1 m2, Inw own' (set9 w4 (w.heap.size + 3) (.int .u8 q0) (.string q1) (.int .i64 q2) (.int .i64 q3) (.int .i64 q4) (.int .i64 q5) (.int .i64 q6) (.int .u8 q7) (.bool q8)) wb q bw bd ws ds ps m1 m2 none0 ∧ m1 ≤ m + 1 ∧ m2 ≤ m + 1 ∧ Moves own w own' (set9 w4 (w.heap.size + 3) (.int .u8 q0) (.string q1) (.int .i64 q2) (.int .i64 q3) (.int .i64 q4) (.int .i64 q5) (.int .i64 q6) (.int .u8 q7) (.bool q8))) := by
    obtain ⟨own', hI5, hM5⟩ := HI.out.fin HARG.out HIL.out HB.out K1.out HKA.out HKA'.out k2 (set9_keptC (N := w.heap.size + 3) (fun hO => hO.2 (own4 (by omega) (by omega))) (.int .u8 q0) (.string q1) (.int .i64 q2) (.int .i64 q3) (.int .i64 q4) (.int .i64 q5) (.int .i64 q6) (.int .u8 q7) (.bool q8)) (fun b hb => set9_other _ _ _ _ _ _ _ _ _ _ _ _ (by omega)) HQ.out HR.out hT
    exact ⟨own', bw, bd, ws, ds, m1, m2, hI5, by have := HM.out.1; omega, by have := HM.out.2; omega, hM5⟩
  obtain ⟨⟨z0, z1, z2, z3, z4, z5, z6, z7, z8⟩, zf⟩ := nine a3
  obtain ⟨⟨u0, u1, u2, u3, u4, u5, u6, u7, u8⟩, uf⟩ := nine a2
  have heq := eq29 q0 q1 q2 q3 q4 q5 q6 q7 q8 q0 q1 q2 q3 q4 q5 q6 q7 q8
  rw [eqB_self] at heq
  have hgd := guard29
  clear k2 hT a2 a3 y0 y1 y2 y3 y4 y5 y6 y7 y8 yf d0 e2 e4 e5 e6 e7 e8 e9 e10 e11 e12 e13 own2 own3 own4 nb sA hs3 hsz hl3
  go_wp2
  go_ret
  rw [← set9_def]
  exact ⟨rfl, HF.out⟩

set_option maxRecDepth 100000 in
set_option maxHeartbeats 1000000 in
theorem stored_mark (h : Inw own w wb q bw bd ws ds ps m1 m2 none0) (hm1 : m1 ≤ m) (hm2 : m2 ≤ m) (hps : ps.length ≤ 2000000000000) {i : Nat} (hi : i < ps.length) {qb rb : Nat} (hqb : qb = ps[i].1) (hrb : rb = ps[i].2) (on a b : Int) (s : ByteArray) (o0 : Int) (o1 : ByteArray) (o2 o3 o4 o5 o6 o7 : Int) (o8 : Bool) (c0 c1 c2 p0 : Int) (p1 : ByteArray) (p2 p3 : Int) (hs : s.size ≤ maxLen) :
    Calls Tryz.prog 30 #[.pointer (some ⟨wb, 0, none⟩), .agg #[.pointer (some ⟨qb, 0, none⟩), .pointer (some ⟨rb, 0, none⟩)], .agg #[.int .i64 6, .int .i64 on, .int .i64 a, .int .i64 b, .string s, .int .u8 o0, .string o1, .int .i64 o2, .int .i64 o3, .int .i64 o4, .int .i64 o5, .int .i64 o6, .int .u8 o7, .bool o8, .int .i64 c0, .int .i64 c1, .int .i64 c2, .int .u8 p0, .string p1, .int .i64 p2, .int .i64 p3]] w (Went own w wb q ps (m + 1)) := by
  obtain ⟨hB, x0, x1, x2, x3, hsz⟩ := box4 w (.cells #[.pointer (some ⟨qb, 0, none⟩), .pointer (some ⟨rb, 0, none⟩)] 91) (.cells #[.int .i64 6, .int .i64 on, .int .i64 a, .int .i64 b, .string s, .int .u8 o0, .string o1, .int .i64 o2, .int .i64 o3, .int .i64 o4, .int .i64 o5, .int .i64 o6, .int .u8 o7, .bool o8, .int .i64 c0, .int .i64 c1, .int .i64 c2, .int .u8 p0, .string p1, .int .i64 p2, .int .i64 p3] 86) (.cells #[.int .u8 0, .string ⟨#[]⟩, .int .i64 0, .int .i64 0, .int .i64 0, .int .i64 0, .int .i64 0, .int .u8 0, .bool false] 84) (.cells #[.int .u8 0, .string ⟨#[]⟩, .int .i64 0, .int .i64 0, .int .i64 0, .int .i64 0, .int .i64 0, .int .u8 0, .bool false] 84)
  have hI := h.below hB
  have hT0 := hI.th i hi id
  rw [← hqb, ← hrb] at hT0
  have hp := pair_mark hT0 s hs
  unfold PairOf at hp
  have HARG : Hid (2 * i + 2 < ARG) := by unfold Hid ARG; omega
  have HI : Hid (Inw own w wb q bw bd ws ds ps m1 m2 none0) := h
  have HIL : Hid (i < ps.length) := hi
  have HQ : Hid (qb = ps[i].1) := hqb
  have HR : Hid (rb = ps[i].2) := hrb
  have HM : Hid (m1 ≤ m ∧ m2 ≤ m) := ⟨hm1, hm2⟩
  have HB : Hid (Below w.heap.size w ((((w.alloc (.cells #[.pointer (some ⟨qb, 0, none⟩), .pointer (some ⟨rb, 0, none⟩)] 91)).alloc (.cells #[.int .i64 6, .int .i64 on, .int .i64 a, .int .i64 b, .string s, .int .u8 o0, .string o1, .int .i64 o2, .int .i64 o3, .int .i64 o4, .int .i64 o5, .int .i64 o6, .int .u8 o7, .bool o8, .int .i64 c0, .int .i64 c1, .int .i64 c2, .int .u8 p0, .string p1, .int .i64 p2, .int .i64 p3] 86)).alloc (.cells #[.int .u8 0, .string ⟨#[]⟩, .int .i64 0, .int .i64 0, .int .i64 0, .int .i64 0, .int .i64 0, .int .u8 0, .bool false] 84)).alloc (.cells #[.int .u8 0, .string ⟨#[]⟩, .int .i64 0, .int .i64 0, .int .i64 0, .int .i64 0, .int .i64 0, .int .u8 0, .bool false] 84))) := hB
  have HX0 : Hid _ := x0
  have HX1 : Hid _ := x1
  have HX2 : Hid _ := x2
  have HX3 : Hid _ := x3
  have HSZ : Hid _ := hsz
  clear h hI hT0 hqb hrb hps hB x0 x1 x2 x3 hsz hm1 hm2 hi
  go_enter Tryz.func30, Tryz.ntmps30
  go_wp2_with fail
  refine hp.mono ?_
  rintro e w3 ⟨o, er, rfl, k1, hp2⟩
  clear hp
  generalize ((((w.alloc (.cells #[.pointer (some ⟨qb, 0, none⟩), .pointer (some ⟨rb, 0, none⟩)] 91)).alloc (.cells #[.int .i64 6, .int .i64 on, .int .i64 a, .int .i64 b, .string s, .int .u8 o0, .string o1, .int .i64 o2, .int .i64 o3, .int .i64 o4, .int .i64 o5, .int .i64 o6, .int .u8 o7, .bool o8, .int .i64 c0, .int .i64 c1, .int .i64 c2, .int .u8 p0, .string p1, .int .i64 p2, .int .i64 p3] 86)).alloc (.cells #[.int .u8 0, .string ⟨#[]⟩, .int .i64 0, .int .i64 0, .int .i64 0, .int .i64 0, .int .i64 0, .int .u8 0, .bool false] 84)).alloc (.cells #[.int .u8 0, .string ⟨#[]⟩, .int .i64 0, .int .i64 0, .int .i64 0, .int .i64 0, .int .i64 0, .int .u8 0, .bool false] 84)) = W at *
  have nb : ∀ {k : Nat} {ob : Obj}, w.heap.size ≤ k → W.heap[k]? = some ob → w3.heap[k]? = some ob := fun hk hb => new_kept (by omega) k1 hk hb
  have b0 := nb (Nat.le_refl _) HX0.out
  have b1 := nb (by omega) HX1.out
  have b2 := nb (by omega) HX2.out
  have HB3 : Hid (w3.heap[w.heap.size + 3]? = some (.cells #[.int .u8 0, .string ⟨#[]⟩, .int .i64 0, .int .i64 0, .int .i64 0, .int .i64 0, .int .i64 0, .int .u8 0, .bool false] 84 (0, 0))) := nb (by omega) HX3.out
  have hl3 : w.heap.size + 3 < w3.heap.size := (Array.getElem?_eq_some_iff.1 HB3.out).1
  obtain ⟨⟨y0, y1, y2, y3, y4, y5, y6, y7, y8⟩, yf⟩ := nine b2
  have d0 : w3.cell? ⟨w.heap.size, 1, none⟩ = some (.pointer (some ⟨rb, 0, none⟩)) := by simp [World.cell?, b0]
  have e2 : w3.cell? ⟨w.heap.size + 1, 2, none⟩ = some (.int .i64 a) := by simp [World.cell?, b1]
  have e4 : w3.cell? ⟨w.heap.size + 1, 4, none⟩ = some (.string s) := by simp [World.cell?, b1]
  have e5 : w3.cell? ⟨w.heap.size + 1, 5, none⟩ = some (.int .u8 o0) := by simp [World.cell?, b1]
  have e6 : w3.cell? ⟨w.heap.size + 1, 6, none⟩ = some (.string o1) := by simp [World.cell?, b1]
  have e7 : w3.cell? ⟨w.heap.size + 1, 7, none⟩ = some (.int .i64 o2) := by simp [World.cell?, b1]
  have e8 : w3.cell? ⟨w.heap.size + 1, 8, none⟩ = some (.int .i64 o3) := by simp [World.cell?, b1]
  have e9 : w3.cell? ⟨w.heap.size + 1, 9, none⟩ = some (.int .i64 o4) := by simp [World.cell?, b1]
  have e10 : w3.cell? ⟨w.heap.size + 1, 10, none⟩ = some (.int .i64 o5) := by simp [World.cell?, b1]
  have e11 : w3.cell? ⟨w.heap.size + 1, 11, none⟩ = some (.int .i64 o6) := by simp [World.cell?, b1]
  have e12 : w3.cell? ⟨w.heap.size + 1, 12, none⟩ = some (.int .u8 o7) := by simp [World.cell?, b1]
  have e13 : w3.cell? ⟨w.heap.size + 1, 13, none⟩ = some (.bool o8) := by simp [World.cell?, b1]
  have K1 : Hid _ := k1
  obtain ⟨q0, q1, q2, q3, q4, q5, q6, q7, q8⟩ := o
  have own2 : ∀ {N : Nat}, w.heap.size ≤ N → N < W.heap.size → ownNew (ownNew own w 0) W (2 * i + 1) N = 0 := fun h1 h2 => (ownNew_old h2).trans (ownNew_new h1)
  have hsz := HSZ.out
  have HKA : Hid (KeptC (Others (ownNew (ownNew own w 0) W (2 * i + 1)) w3 0) w3 (set9 w3 (w.heap.size + 2) (.int .u8 q0) (.string q1) (.int .i64 q2) (.int .i64 q3) (.int .i64 q4) (.int .i64 q5) (.int .i64 q6) (.int .u8 q7) (.bool q8))) := set9_keptC (fun hO => hO.2 (own2 (by omega) (by omega))) _ _ _ _ _ _ _ _ _
  have HKA' : Hid (∀ b, b < w.heap.size → (set9 w3 (w.heap.size + 2) (.int .u8 q0) (.string q1) (.int .i64 q2) (.int .i64 q3) (.int .i64 q4) (.int .i64 q5) (.int .i64 q6) (.int .u8 q7) (.bool q8)).heap[b]? = w3.heap[b]?) := fun b hb => set9_other _ _ _ _ _ _ _ _ _ _ _ _ (by omega)
  have hp3 := hp2 _ HKA.out
  have HA2 : Hid ((set9 w3 (w.heap.size + 2) (.int .u8 q0) (.string q1) (.int .i64 q2) (.int .i64 q3) (.int .i64 q4) (.int .i64 q5) (.int .i64 q6) (.int .u8 q7) (.bool q8)).heap[w.heap.size + 2]? = some (.cells #[.int .u8 q0, .string q1, .int .i64 q2, .int .i64 q3, .int .i64 q4, .int .i64 q5, .int .i64 q6, .int .u8 q7, .bool q8] 84 (0, 0))) := set9_same _ _ _ _ _ _ _ _ _ b2
  have HA3 : Hid ((set9 w3 (w.heap.size + 2) (.int .u8 q0) (.string q1) (.int .i64 q2) (.int .i64 q3) (.int .i64 q4) (.int .i64 q5) (.int .i64 q6) (.int .u8 q7) (.bool q8)).heap[w.heap.size + 3]? = some (.cells #[.int .u8 0, .string ⟨#[]⟩, .int .i64 0, .int .i64 0, .int .i64 0, .int .i64 0, .int .i64 0, .int .u8 0, .bool false] 84 (0, 0))) := (set9_other _ _ _ _ _ _ _ _ _ _ _ _ (by omega)).trans HB3.out
  rw [set9_def] at hp3
  simp only [Ob.arr] at hp3
  have hs3 := k1.size
  clear k1 hp2 b0 b1 b2
  simp only [Ob.arr]
  go_wp2_with fail
  refine hp3.mono ?_
  rintro e w4 ⟨rfl, k2, hT⟩
  rw [← set9_def] at k2 hT
  clear hp3
  generalize set9 w3 (w.heap.size + 2) (.int .u8 q0) (.string q1) (.int .i64 q2) (.int .i64 q3) (.int .i64 q4) (.int .i64 q5) (.int .i64 q6) (.int .u8 q7) (.bool q8) = W3 at *
  have own3 : ∀ {N : Nat}, w.heap.size ≤ N → N < W.heap.size → ownNew (ownNew (ownNew own w 0) W (2 * i + 1)) w3 0 N = 0 := fun h1 h2 => (ownNew_old (by omega)).trans (own2 h1 h2)
  have a2 := (k2.block (w.heap.size + 2) ⟨(Array.getElem?_eq_some_iff.1 HA2.out).1, by rw [own3 (by omega) (by omega)]; omega⟩ (Array.getElem?_eq_some_iff.1 HA2.out).1).trans HA2.out
  have a3 := (k2.block (w.heap.size + 3) ⟨(Array.getElem?_eq_some_iff.1 HA3.out).1, by rw [own3 (by omega) (by omega)]; omega⟩ (Array.getElem?_eq_some_iff.1 HA3.out).1).trans HA3.out
  have hl4 : w.heap.size + 3 < w4.heap.size := (Array.getElem?_eq_some_iff.1 a3).1
  have hl42 : w.heap.size + 2 < w4.heap.size := by omega
  have hn1 : w.heap.size + 2 ≠ w.heap.size + 3 := by omega
  have sA := HKA.out.size
  have own4 : ∀ {N : Nat}, w.heap.size ≤ N → N < W.heap.size → ownNew (ownNew (ownNew (ownNew own w 0) W (2 * i + 1)) w3 0) W3 (2 * i + 2) N = 0 := fun h1 h2 => (ownNew_old (by omega)).trans (own3 h1 h2)
  have HF : Hid (∃ own' bw bd ws ds m1 m2, Inw own' (set9 w4 (w.heap.size + 3) (.int .u8 q0) (.string q1) (.int .i64 q2) (.int .i64 q3) (.int .i64 q4) (.int .i64 q5) (.int .i64 q6) (.int .u8 q7) (.bool q8)) wb q bw bd ws ds ps m1 m2 none0 ∧ m1 ≤ m + 1 ∧ m2 ≤ m + 1 ∧ Moves own w own' (set9 w4 (w.heap.size + 3) (.int .u8 q0) (.string q1) (.int .i64 q2) (.int .i64 q3) (.int .i64 q4) (.int .i64 q5) (.int .i64 q6) (.int .u8 q7) (.bool q8))) := by
    obtain ⟨own', hI5, hM5⟩ := HI.out.fin HARG.out HIL.out HB.out K1.out HKA.out HKA'.out k2 (set9_keptC (N := w.heap.size + 3) (fun hO => hO.2 (own4 (by omega) (by omega))) (.int .u8 q0) (.string q1) (.int .i64 q2) (.int .i64 q3) (.int .i64 q4) (.int .i64 q5) (.int .i64 q6) (.int .u8 q7) (.bool q8)) (fun b hb => set9_other _ _ _ _ _ _ _ _ _ _ _ _ (by omega)) HQ.out HR.out hT
    exact ⟨own', bw, bd, ws, ds, m1, m2, hI5, by have := HM.out.1; omega, by have := HM.out.2; omega, hM5⟩
  obtain ⟨⟨z0, z1, z2, z3, z4, z5, z6, z7, z8⟩, zf⟩ := nine a3
  obtain ⟨⟨u0, u1, u2, u3, u4, u5, u6, u7, u8⟩, uf⟩ := nine a2
  have heq := eq29 q0 q1 q2 q3 q4 q5 q6 q7 q8 q0 q1 q2 q3 q4 q5 q6 q7 q8
  rw [eqB_self] at heq
  have hgd := guard29
  clear k2 hT a2 a3 y0 y1 y2 y3 y4 y5 y6 y7 y8 yf d0 e2 e4 e5 e6 e7 e8 e9 e10 e11 e12 e13 own2 own3 own4 nb sA hs3 hsz hl3
  go_wp2
  go_ret
  rw [← set9_def]
  exact ⟨rfl, HF.out⟩

set_option maxRecDepth 100000 in
set_option maxHeartbeats 1000000 in
theorem stored_remove (h : Inw own w wb q bw bd ws ds ps m1 m2 none0) (hm1 : m1 ≤ m) (hm2 : m2 ≤ m) (hps : ps.length ≤ 2000000000000) {i : Nat} (hi : i < ps.length) {qb rb : Nat} (hqb : qb = ps[i].1) (hrb : rb = ps[i].2) (on a b : Int) (s : ByteArray) (o0 : Int) (o1 : ByteArray) (o2 o3 o4 o5 o6 o7 : Int) (o8 : Bool) (c0 c1 c2 p0 : Int) (p1 : ByteArray) (p2 p3 : Int) (ho0 : 0 ≤ o0) (ho1 : o0 ≤ 255) (hs : s.size ≤ maxLen) :
    Calls Tryz.prog 30 #[.pointer (some ⟨wb, 0, none⟩), .agg #[.pointer (some ⟨qb, 0, none⟩), .pointer (some ⟨rb, 0, none⟩)], .agg #[.int .i64 7, .int .i64 on, .int .i64 a, .int .i64 b, .string s, .int .u8 o0, .string o1, .int .i64 o2, .int .i64 o3, .int .i64 o4, .int .i64 o5, .int .i64 o6, .int .u8 o7, .bool o8, .int .i64 c0, .int .i64 c1, .int .i64 c2, .int .u8 p0, .string p1, .int .i64 p2, .int .i64 p3]] w (Went own w wb q ps (m + 1)) := by
  obtain ⟨hB, x0, x1, x2, x3, hsz⟩ := box4 w (.cells #[.pointer (some ⟨qb, 0, none⟩), .pointer (some ⟨rb, 0, none⟩)] 91) (.cells #[.int .i64 7, .int .i64 on, .int .i64 a, .int .i64 b, .string s, .int .u8 o0, .string o1, .int .i64 o2, .int .i64 o3, .int .i64 o4, .int .i64 o5, .int .i64 o6, .int .u8 o7, .bool o8, .int .i64 c0, .int .i64 c1, .int .i64 c2, .int .u8 p0, .string p1, .int .i64 p2, .int .i64 p3] 86) (.cells #[.int .u8 0, .string ⟨#[]⟩, .int .i64 0, .int .i64 0, .int .i64 0, .int .i64 0, .int .i64 0, .int .u8 0, .bool false] 84) (.cells #[.int .u8 0, .string ⟨#[]⟩, .int .i64 0, .int .i64 0, .int .i64 0, .int .i64 0, .int .i64 0, .int .u8 0, .bool false] 84)
  have hI := h.below hB
  have hT0 := hI.th i hi id
  rw [← hqb, ← hrb] at hT0
  have hp := pair_remove hT0 o0 s a ho0 ho1 hs
  unfold PairOf at hp
  have HARG : Hid (2 * i + 2 < ARG) := by unfold Hid ARG; omega
  have HI : Hid (Inw own w wb q bw bd ws ds ps m1 m2 none0) := h
  have HIL : Hid (i < ps.length) := hi
  have HQ : Hid (qb = ps[i].1) := hqb
  have HR : Hid (rb = ps[i].2) := hrb
  have HM : Hid (m1 ≤ m ∧ m2 ≤ m) := ⟨hm1, hm2⟩
  have HB : Hid (Below w.heap.size w ((((w.alloc (.cells #[.pointer (some ⟨qb, 0, none⟩), .pointer (some ⟨rb, 0, none⟩)] 91)).alloc (.cells #[.int .i64 7, .int .i64 on, .int .i64 a, .int .i64 b, .string s, .int .u8 o0, .string o1, .int .i64 o2, .int .i64 o3, .int .i64 o4, .int .i64 o5, .int .i64 o6, .int .u8 o7, .bool o8, .int .i64 c0, .int .i64 c1, .int .i64 c2, .int .u8 p0, .string p1, .int .i64 p2, .int .i64 p3] 86)).alloc (.cells #[.int .u8 0, .string ⟨#[]⟩, .int .i64 0, .int .i64 0, .int .i64 0, .int .i64 0, .int .i64 0, .int .u8 0, .bool false] 84)).alloc (.cells #[.int .u8 0, .string ⟨#[]⟩, .int .i64 0, .int .i64 0, .int .i64 0, .int .i64 0, .int .i64 0, .int .u8 0, .bool false] 84))) := hB
  have HX0 : Hid _ := x0
  have HX1 : Hid _ := x1
  have HX2 : Hid _ := x2
  have HX3 : Hid _ := x3
  have HSZ : Hid _ := hsz
  clear h hI hT0 hqb hrb hps hB x0 x1 x2 x3 hsz hm1 hm2 hi
  go_enter Tryz.func30, Tryz.ntmps30
  go_wp2_with fail
  refine hp.mono ?_
  rintro e w3 ⟨o, er, rfl, k1, hp2⟩
  clear hp
  generalize ((((w.alloc (.cells #[.pointer (some ⟨qb, 0, none⟩), .pointer (some ⟨rb, 0, none⟩)] 91)).alloc (.cells #[.int .i64 7, .int .i64 on, .int .i64 a, .int .i64 b, .string s, .int .u8 o0, .string o1, .int .i64 o2, .int .i64 o3, .int .i64 o4, .int .i64 o5, .int .i64 o6, .int .u8 o7, .bool o8, .int .i64 c0, .int .i64 c1, .int .i64 c2, .int .u8 p0, .string p1, .int .i64 p2, .int .i64 p3] 86)).alloc (.cells #[.int .u8 0, .string ⟨#[]⟩, .int .i64 0, .int .i64 0, .int .i64 0, .int .i64 0, .int .i64 0, .int .u8 0, .bool false] 84)).alloc (.cells #[.int .u8 0, .string ⟨#[]⟩, .int .i64 0, .int .i64 0, .int .i64 0, .int .i64 0, .int .i64 0, .int .u8 0, .bool false] 84)) = W at *
  have nb : ∀ {k : Nat} {ob : Obj}, w.heap.size ≤ k → W.heap[k]? = some ob → w3.heap[k]? = some ob := fun hk hb => new_kept (by omega) k1 hk hb
  have b0 := nb (Nat.le_refl _) HX0.out
  have b1 := nb (by omega) HX1.out
  have b2 := nb (by omega) HX2.out
  have HB3 : Hid (w3.heap[w.heap.size + 3]? = some (.cells #[.int .u8 0, .string ⟨#[]⟩, .int .i64 0, .int .i64 0, .int .i64 0, .int .i64 0, .int .i64 0, .int .u8 0, .bool false] 84 (0, 0))) := nb (by omega) HX3.out
  have hl3 : w.heap.size + 3 < w3.heap.size := (Array.getElem?_eq_some_iff.1 HB3.out).1
  obtain ⟨⟨y0, y1, y2, y3, y4, y5, y6, y7, y8⟩, yf⟩ := nine b2
  have d0 : w3.cell? ⟨w.heap.size, 1, none⟩ = some (.pointer (some ⟨rb, 0, none⟩)) := by simp [World.cell?, b0]
  have e2 : w3.cell? ⟨w.heap.size + 1, 2, none⟩ = some (.int .i64 a) := by simp [World.cell?, b1]
  have e4 : w3.cell? ⟨w.heap.size + 1, 4, none⟩ = some (.string s) := by simp [World.cell?, b1]
  have e5 : w3.cell? ⟨w.heap.size + 1, 5, none⟩ = some (.int .u8 o0) := by simp [World.cell?, b1]
  have e6 : w3.cell? ⟨w.heap.size + 1, 6, none⟩ = some (.string o1) := by simp [World.cell?, b1]
  have e7 : w3.cell? ⟨w.heap.size + 1, 7, none⟩ = some (.int .i64 o2) := by simp [World.cell?, b1]
  have e8 : w3.cell? ⟨w.heap.size + 1, 8, none⟩ = some (.int .i64 o3) := by simp [World.cell?, b1]
  have e9 : w3.cell? ⟨w.heap.size + 1, 9, none⟩ = some (.int .i64 o4) := by simp [World.cell?, b1]
  have e10 : w3.cell? ⟨w.heap.size + 1, 10, none⟩ = some (.int .i64 o5) := by simp [World.cell?, b1]
  have e11 : w3.cell? ⟨w.heap.size + 1, 11, none⟩ = some (.int .i64 o6) := by simp [World.cell?, b1]
  have e12 : w3.cell? ⟨w.heap.size + 1, 12, none⟩ = some (.int .u8 o7) := by simp [World.cell?, b1]
  have e13 : w3.cell? ⟨w.heap.size + 1, 13, none⟩ = some (.bool o8) := by simp [World.cell?, b1]
  have K1 : Hid _ := k1
  obtain ⟨q0, q1, q2, q3, q4, q5, q6, q7, q8⟩ := o
  have own2 : ∀ {N : Nat}, w.heap.size ≤ N → N < W.heap.size → ownNew (ownNew own w 0) W (2 * i + 1) N = 0 := fun h1 h2 => (ownNew_old h2).trans (ownNew_new h1)
  have hsz := HSZ.out
  have HKA : Hid (KeptC (Others (ownNew (ownNew own w 0) W (2 * i + 1)) w3 0) w3 (set9 w3 (w.heap.size + 2) (.int .u8 q0) (.string q1) (.int .i64 q2) (.int .i64 q3) (.int .i64 q4) (.int .i64 q5) (.int .i64 q6) (.int .u8 q7) (.bool q8))) := set9_keptC (fun hO => hO.2 (own2 (by omega) (by omega))) _ _ _ _ _ _ _ _ _
  have HKA' : Hid (∀ b, b < w.heap.size → (set9 w3 (w.heap.size + 2) (.int .u8 q0) (.string q1) (.int .i64 q2) (.int .i64 q3) (.int .i64 q4) (.int .i64 q5) (.int .i64 q6) (.int .u8 q7) (.bool q8)).heap[b]? = w3.heap[b]?) := fun b hb => set9_other _ _ _ _ _ _ _ _ _ _ _ _ (by omega)
  have hp3 := hp2 _ HKA.out
  have HA2 : Hid ((set9 w3 (w.heap.size + 2) (.int .u8 q0) (.string q1) (.int .i64 q2) (.int .i64 q3) (.int .i64 q4) (.int .i64 q5) (.int .i64 q6) (.int .u8 q7) (.bool q8)).heap[w.heap.size + 2]? = some (.cells #[.int .u8 q0, .string q1, .int .i64 q2, .int .i64 q3, .int .i64 q4, .int .i64 q5, .int .i64 q6, .int .u8 q7, .bool q8] 84 (0, 0))) := set9_same _ _ _ _ _ _ _ _ _ b2
  have HA3 : Hid ((set9 w3 (w.heap.size + 2) (.int .u8 q0) (.string q1) (.int .i64 q2) (.int .i64 q3) (.int .i64 q4) (.int .i64 q5) (.int .i64 q6) (.int .u8 q7) (.bool q8)).heap[w.heap.size + 3]? = some (.cells #[.int .u8 0, .string ⟨#[]⟩, .int .i64 0, .int .i64 0, .int .i64 0, .int .i64 0, .int .i64 0, .int .u8 0, .bool false] 84 (0, 0))) := (set9_other _ _ _ _ _ _ _ _ _ _ _ _ (by omega)).trans HB3.out
  rw [set9_def] at hp3
  simp only [Ob.arr] at hp3
  have hs3 := k1.size
  clear k1 hp2 b0 b1 b2
  simp only [Ob.arr]
  go_wp2_with fail
  refine hp3.mono ?_
  rintro e w4 ⟨rfl, k2, hT⟩
  rw [← set9_def] at k2 hT
  clear hp3
  generalize set9 w3 (w.heap.size + 2) (.int .u8 q0) (.string q1) (.int .i64 q2) (.int .i64 q3) (.int .i64 q4) (.int .i64 q5) (.int .i64 q6) (.int .u8 q7) (.bool q8) = W3 at *
  have own3 : ∀ {N : Nat}, w.heap.size ≤ N → N < W.heap.size → ownNew (ownNew (ownNew own w 0) W (2 * i + 1)) w3 0 N = 0 := fun h1 h2 => (ownNew_old (by omega)).trans (own2 h1 h2)
  have a2 := (k2.block (w.heap.size + 2) ⟨(Array.getElem?_eq_some_iff.1 HA2.out).1, by rw [own3 (by omega) (by omega)]; omega⟩ (Array.getElem?_eq_some_iff.1 HA2.out).1).trans HA2.out
  have a3 := (k2.block (w.heap.size + 3) ⟨(Array.getElem?_eq_some_iff.1 HA3.out).1, by rw [own3 (by omega) (by omega)]; omega⟩ (Array.getElem?_eq_some_iff.1 HA3.out).1).trans HA3.out
  have hl4 : w.heap.size + 3 < w4.heap.size := (Array.getElem?_eq_some_iff.1 a3).1
  have hl42 : w.heap.size + 2 < w4.heap.size := by omega
  have hn1 : w.heap.size + 2 ≠ w.heap.size + 3 := by omega
  have sA := HKA.out.size
  have own4 : ∀ {N : Nat}, w.heap.size ≤ N → N < W.heap.size → ownNew (ownNew (ownNew (ownNew own w 0) W (2 * i + 1)) w3 0) W3 (2 * i + 2) N = 0 := fun h1 h2 => (ownNew_old (by omega)).trans (own3 h1 h2)
  have HF : Hid (∃ own' bw bd ws ds m1 m2, Inw own' (set9 w4 (w.heap.size + 3) (.int .u8 q0) (.string q1) (.int .i64 q2) (.int .i64 q3) (.int .i64 q4) (.int .i64 q5) (.int .i64 q6) (.int .u8 q7) (.bool q8)) wb q bw bd ws ds ps m1 m2 none0 ∧ m1 ≤ m + 1 ∧ m2 ≤ m + 1 ∧ Moves own w own' (set9 w4 (w.heap.size + 3) (.int .u8 q0) (.string q1) (.int .i64 q2) (.int .i64 q3) (.int .i64 q4) (.int .i64 q5) (.int .i64 q6) (.int .u8 q7) (.bool q8))) := by
    obtain ⟨own', hI5, hM5⟩ := HI.out.fin HARG.out HIL.out HB.out K1.out HKA.out HKA'.out k2 (set9_keptC (N := w.heap.size + 3) (fun hO => hO.2 (own4 (by omega) (by omega))) (.int .u8 q0) (.string q1) (.int .i64 q2) (.int .i64 q3) (.int .i64 q4) (.int .i64 q5) (.int .i64 q6) (.int .u8 q7) (.bool q8)) (fun b hb => set9_other _ _ _ _ _ _ _ _ _ _ _ _ (by omega)) HQ.out HR.out hT
    exact ⟨own', bw, bd, ws, ds, m1, m2, hI5, by have := HM.out.1; omega, by have := HM.out.2; omega, hM5⟩
  obtain ⟨⟨z0, z1, z2, z3, z4, z5, z6, z7, z8⟩, zf⟩ := nine a3
  obtain ⟨⟨u0, u1, u2, u3, u4, u5, u6, u7, u8⟩, uf⟩ := nine a2
  have heq := eq29 q0 q1 q2 q3 q4 q5 q6 q7 q8 q0 q1 q2 q3 q4 q5 q6 q7 q8
  rw [eqB_self] at heq
  have hgd := guard29
  clear k2 hT a2 a3 y0 y1 y2 y3 y4 y5 y6 y7 y8 yf d0 e2 e4 e5 e6 e7 e8 e9 e10 e11 e12 e13 own2 own3 own4 nb sA hs3 hsz hl3
  go_wp2
  go_ret
  rw [← set9_def]
  exact ⟨rfl, HF.out⟩

end

end Go.Proofs.YtdgfjneapialdaaGreatDoor.S
