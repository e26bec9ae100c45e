import Derived.Test.YtdgfjneapialdaaGreatDoorMb
namespace Go.Proofs.YtdgfjneapialdaaGreatDoor
open Go Go.RowKit Go.Maps Go.Lib Go.Sort

theorem below2 (w : World) (a b : Obj) : Below w.heap.size w ((w.alloc a).alloc b) := belowAl (belowAl (Below.refl _ _) _) _
theorem box2a (w : World) (a b : Obj) : ((w.alloc a).alloc b).heap[w.heap.size]? = some a := by
  rw [Below.heap_alloc _ _ _ (by simp)]
  exact (MapKept.heap_alloc w a).1
theorem box2b (w : World) (a b : Obj) : ((w.alloc a).alloc b).heap[w.heap.size + 1]? = some b := by
  have := (MapKept.heap_alloc (w.alloc a) b).1
  rw [show (w.alloc a).heap.size = w.heap.size + 1 by simp] at this
  exact this
/-- A new block of the script's, behind a call on a queue. -/
theorem new_kept {own : Nat → Nat} {w w2 w3 : World} {a k : Nat} {o : Obj} (ha : a ≠ 0) (h : KeptC (Others (ownNew own w 0) w2 a) w2 w3) (hk : w.heap.size ≤ k) (hb : w2.heap[k]? = some o) : w3.heap[k]? = some o :=
  (h.block k ⟨(Array.getElem?_eq_some_iff.1 hb).1, by rw [ownNew_new hk]; exact ha.symm⟩ (Array.getElem?_eq_some_iff.1 hb).1).trans hb

section
variable {own : Nat → Nat} {U : List ByteArray} {w : World} {wb : Nat} {q bw bd : Value} {ws ds : List Value} {ps : List (Nat × Nat)} {m n : Nat}

set_option maxRecDepth 100000 in
set_option maxHeartbeats 1000000 in
theorem lined_add (h : Inv own U w wb q bw bd ws ds ps m m n none0) (hU : Keys U) (hps : ps.length ≤ 2000000000000) {i : Nat} (hi : i < ps.length) {qb rb : Nat} (hqb : qb = ps[i].1) (hrb : rb = ps[i].2) (t : St) (hk : t.k = 12) (hs : t.s.size ≤ maxLen) (hkU : noKeyB t.s = false → t.s ∈ U) :
    Calls Tryz.prog 31 #[.pointer (some ⟨wb, 0, none⟩), .agg #[.pointer (some ⟨qb, 0, none⟩), .pointer (some ⟨rb, 0, none⟩)], .agg t.arr] w (Went own U w wb q ps (m + 1) (n + 1)) := by
  have hB := below2 w (.cells #[.pointer (some ⟨qb, 0, none⟩), .pointer (some ⟨rb, 0, none⟩)] 96) (.cells t.arr 86)
  have hA := box2a w (.cells #[.pointer (some ⟨qb, 0, none⟩), .pointer (some ⟨rb, 0, none⟩)] 96) (.cells t.arr 86)
  have hA2 := box2b w (.cells #[.pointer (some ⟨qb, 0, none⟩), .pointer (some ⟨rb, 0, none⟩)] 96) (.cells t.arr 86)
  have hI := h.below hB
  have hT0 := hI.th i hi id
  rw [← hqb, ← hrb] at hT0
  have hp := pair_add hT0 hU t.s hs hkU
  unfold PairOf at hp
  have HARG : Hid (2 * i + 2 < ARG) := by unfold Hid ARG; omega
  have HM : Hid (Moves own w (ownNew own w 0) ((w.alloc (.cells #[.pointer (some ⟨qb, 0, none⟩), .pointer (some ⟨rb, 0, none⟩)] 96)).alloc (.cells t.arr 86))) := Moves.below hB
  have HI : Hid (Inv (ownNew own w 0) U ((w.alloc (.cells #[.pointer (some ⟨qb, 0, none⟩), .pointer (some ⟨rb, 0, none⟩)] 96)).alloc (.cells t.arr 86)) wb q bw bd ws ds ps m m n none0) := hI
  have HIL : Hid (i < ps.length) := hi
  have HQ : Hid (qb = ps[i].1) := hqb
  have HR : Hid (rb = ps[i].2) := hrb
  obtain ⟨k, on, a, b, s, o0, o1, o2, o3, o4, o5, o6, o7, o8, c0, c1, c2, p0, p1, p2, p3⟩ := t
  simp only [St.arr] at hp HM HI hA hA2 hk hs hkU ⊢
  subst hk
  have HA : Hid _ := hA
  have HA2 : Hid _ := hA2
  clear hB hI h hT0 hqb hrb hA hA2 hps hU hkU
  go_enter Tryz.func31, Tryz.ntmps31
  go_wp2_with fail
  refine hp.mono ?_
  rintro e w3 ⟨c, ⟨x, rfl⟩, rfl, k1, hp2⟩
  have b0 := new_kept (by omega) k1 (Nat.le_refl _) HA.out
  have b1 := new_kept (by omega) k1 (Nat.le_succ _) HA2.out
  have hl : w.heap.size + 1 < w3.heap.size := (Array.getElem?_eq_some_iff.1 b1).1
  have d1 : w3.cell? ⟨w.heap.size, 1, none⟩ = some (.pointer (some ⟨rb, 0, none⟩)) := by simp [World.cell?, b0]
  have d2 : w3.cell? ⟨w.heap.size + 1, 4, none⟩ = some (.string s) := by simp [World.cell?, b1]
  have d3 : w3.cell? ⟨w.heap.size + 1, 2, none⟩ = some (.int .i64 a) := by simp [World.cell?, b1]
  have K1 : Hid _ := k1
  clear hp b0 b1 k1
  go_wp2_with fail
  refine hp2.mono ?_
  rintro e w4 ⟨rfl, k2, hT⟩
  have HF : Hid (∃ own' bw bd ws ds m', Inv own' U w4 wb q bw bd ws ds ps m' m' (n + 1) none0 ∧ m' ≤ m + 1 ∧ Moves own w own' w4) :=
    ⟨_, bw, bd, ws, ds, m, HI.out.pair HARG.out HIL.out K1.out k2 HQ.out HR.out hT, Nat.le_succ _, HM.out.trans (Moves.pair HARG.out K1.out k2)⟩
  clear hp2 k2 hT d1 d2 d3 hl
  go_wp2
  go_ret
  exact ⟨rfl, HF.out⟩
end

end Go.Proofs.YtdgfjneapialdaaGreatDoor
namespace Go.Proofs.YtdgfjneapialdaaGreatDoor
open Go Go.RowKit Go.Maps Go.Lib Go.Sort

section
variable {own : Nat → Nat} {U : List ByteArray} {w : World} {wb : Nat} {q bw bd : Value} {ws ds : List Value} {ps : List (Nat × Nat)} {m n : Nat}

set_option maxRecDepth 100000 in
set_option maxHeartbeats 1000000 in
theorem lined_after (h : Inv own U w wb q bw bd ws ds ps m m n none0) (hU : Keys U) (hn : n ≤ 1000000000000) (hps : ps.length ≤ 2000000000000) {i : Nat} (hi : i < ps.length) {qb rb : Nat} (hqb : qb = ps[i].1) (hrb : rb = ps[i].2) (t : St) (hk : t.k = 13) (hs : t.s.size ≤ maxLen) (hkU : noKeyB t.s = false → t.s ∈ U) :
    Calls Tryz.prog 31 #[.pointer (some ⟨wb, 0, none⟩), .agg #[.pointer (some ⟨qb, 0, none⟩), .pointer (some ⟨rb, 0, none⟩)], .agg t.arr] w (Went own U w wb q ps (m + 1) (n + 1)) := by
  have hB := below2 w (.cells #[.pointer (some ⟨qb, 0, none⟩), .pointer (some ⟨rb, 0, none⟩)] 96) (.cells t.arr 86)
  have hA := box2a w (.cells #[.pointer (some ⟨qb, 0, none⟩), .pointer (some ⟨rb, 0, none⟩)] 96) (.cells t.arr 86)
  have hA2 := box2b w (.cells #[.pointer (some ⟨qb, 0, none⟩), .pointer (some ⟨rb, 0, none⟩)] 96) (.cells t.arr 86)
  have hI := h.below hB
  have hT0 := hI.th i hi id
  rw [← hqb, ← hrb] at hT0
  have hp := pair_after hT0 hn hU t.s hs hkU t.a
  unfold PairOf at hp
  have HARG : Hid (2 * i + 2 < ARG) := by unfold Hid ARG; omega
  have HM : Hid (Moves own w (ownNew own w 0) ((w.alloc (.cells #[.pointer (some ⟨qb, 0, none⟩), .pointer (some ⟨rb, 0, none⟩)] 96)).alloc (.cells t.arr 86))) := Moves.below hB
  have HI : Hid (Inv (ownNew own w 0) U ((w.alloc (.cells #[.pointer (some ⟨qb, 0, none⟩), .pointer (some ⟨rb, 0, none⟩)] 96)).alloc (.cells t.arr 86)) wb q bw bd ws ds ps m m n none0) := hI
  have HIL : Hid (i < ps.length) := hi
  have HQ : Hid (qb = ps[i].1) := hqb
  have HR : Hid (rb = ps[i].2) := hrb
  obtain ⟨k, on, a, b, s, o0, o1, o2, o3, o4, o5, o6, o7, o8, c0, c1, c2, p0, p1, p2, p3⟩ := t
  simp only [St.arr] at hp HM HI hA hA2 hk hs hkU ⊢
  subst hk
  have HA : Hid _ := hA
  have HA2 : Hid _ := hA2
  clear hB hI h hT0 hqb hrb hA hA2 hn hps hU hkU
  go_enter Tryz.func31, Tryz.ntmps31
  go_wp2_with fail
  refine hp.mono ?_
  rintro e w3 ⟨c, ⟨x, rfl⟩, rfl, k1, hp2⟩
  have b0 := new_kept (by omega) k1 (Nat.le_refl _) HA.out
  have b1 := new_kept (by omega) k1 (Nat.le_succ _) HA2.out
  have hl : w.heap.size + 1 < w3.heap.size := (Array.getElem?_eq_some_iff.1 b1).1
  have d1 : w3.cell? ⟨w.heap.size, 1, none⟩ = some (.pointer (some ⟨rb, 0, none⟩)) := by simp [World.cell?, b0]
  have d2 : w3.cell? ⟨w.heap.size + 1, 4, none⟩ = some (.string s) := by simp [World.cell?, b1]
  have d3 : w3.cell? ⟨w.heap.size + 1, 2, none⟩ = some (.int .i64 a) := by simp [World.cell?, b1]
  have K1 : Hid _ := k1
  clear hp b0 b1 k1
  go_wp2_with fail
  refine hp2.mono ?_
  rintro e w4 ⟨rfl, k2, hT⟩
  have HF : Hid (∃ own' bw bd ws ds m', Inv own' U w4 wb q bw bd ws ds ps m' m' (n + 1) none0 ∧ m' ≤ m + 1 ∧ Moves own w own' w4) :=
    ⟨_, bw, bd, ws, ds, m, HI.out.pair HARG.out HIL.out K1.out k2 HQ.out HR.out hT, Nat.le_succ _, HM.out.trans (Moves.pair HARG.out K1.out k2)⟩
  clear hp2 k2 hT d1 d2 d3 hl
  go_wp2
  go_ret
  exact ⟨rfl, HF.out⟩

set_option maxRecDepth 100000 in
set_option maxHeartbeats 1000000 in
theorem lined_limited (h : Inv own U w wb q bw bd ws ds ps m m n none0) (hU : Keys U) (hn : n ≤ 1000000000000) (hps : ps.length ≤ 2000000000000) {i : Nat} (hi : i < ps.length) {qb rb : Nat} (hqb : qb = ps[i].1) (hrb : rb = ps[i].2) (t : St) (hk : t.k = 14) (hs : t.s.size ≤ maxLen) (hkU : noKeyB t.s = false → t.s ∈ U) :
    Calls Tryz.prog 31 #[.pointer (some ⟨wb, 0, none⟩), .agg #[.pointer (some ⟨qb, 0, none⟩), .pointer (some ⟨rb, 0, none⟩)], .agg t.arr] w (Went own U w wb q ps (m + 1) (n + 1)) := by
  have hB := below2 w (.cells #[.pointer (some ⟨qb, 0, none⟩), .pointer (some ⟨rb, 0, none⟩)] 96) (.cells t.arr 86)
  have hA := box2a w (.cells #[.pointer (some ⟨qb, 0, none⟩), .pointer (some ⟨rb, 0, none⟩)] 96) (.cells t.arr 86)
  have hA2 := box2b w (.cells #[.pointer (some ⟨qb, 0, none⟩), .pointer (some ⟨rb, 0, none⟩)] 96) (.cells t.arr 86)
  have hI := h.below hB
  have hT0 := hI.th i hi id
  rw [← hqb, ← hrb] at hT0
  have hp := pair_limited hT0 hn hU t.s hs hkU
  unfold PairOf at hp
  have HARG : Hid (2 * i + 2 < ARG) := by unfold Hid ARG; omega
  have HM : Hid (Moves own w (ownNew own w 0) ((w.alloc (.cells #[.pointer (some ⟨qb, 0, none⟩), .pointer (some ⟨rb, 0, none⟩)] 96)).alloc (.cells t.arr 86))) := Moves.below hB
  have HI : Hid (Inv (ownNew own w 0) U ((w.alloc (.cells #[.pointer (some ⟨qb, 0, none⟩), .pointer (some ⟨rb, 0, none⟩)] 96)).alloc (.cells t.arr 86)) wb q bw bd ws ds ps m m n none0) := hI
  have HIL : Hid (i < ps.length) := hi
  have HQ : Hid (qb = ps[i].1) := hqb
  have HR : Hid (rb = ps[i].2) := hrb
  obtain ⟨k, on, a, b, s, o0, o1, o2, o3, o4, o5, o6, o7, o8, c0, c1, c2, p0, p1, p2, p3⟩ := t
  simp only [St.arr] at hp HM HI hA hA2 hk hs hkU ⊢
  subst hk
  have HA : Hid _ := hA
  have HA2 : Hid _ := hA2
  clear hB hI h hT0 hqb hrb hA hA2 hn hps hU hkU
  go_enter Tryz.func31, Tryz.ntmps31
  go_wp2_with fail
  refine hp.mono ?_
  rintro e w3 ⟨c, ⟨x, rfl⟩, rfl, k1, hp2⟩
  have b0 := new_kept (by omega) k1 (Nat.le_refl _) HA.out
  have b1 := new_kept (by omega) k1 (Nat.le_succ _) HA2.out
  have hl : w.heap.size + 1 < w3.heap.size := (Array.getElem?_eq_some_iff.1 b1).1
  have d1 : w3.cell? ⟨w.heap.size, 1, none⟩ = some (.pointer (some ⟨rb, 0, none⟩)) := by simp [World.cell?, b0]
  have d2 : w3.cell? ⟨w.heap.size + 1, 4, none⟩ = some (.string s) := by simp [World.cell?, b1]
  have d3 : w3.cell? ⟨w.heap.size + 1, 2, none⟩ = some (.int .i64 a) := by simp [World.cell?, b1]
  have K1 : Hid _ := k1
  clear hp b0 b1 k1
  go_wp2_with fail
  refine hp2.mono ?_
  rintro e w4 ⟨rfl, k2, hT⟩
  have HF : Hid (∃ own' bw bd ws ds m', Inv own' U w4 wb q bw bd ws ds ps m' m' (n + 1) none0 ∧ m' ≤ m + 1 ∧ Moves own w own' w4) :=
    ⟨_, bw, bd, ws, ds, m, HI.out.pair HARG.out HIL.out K1.out k2 HQ.out HR.out hT, Nat.le_succ _, HM.out.trans (Moves.pair HARG.out K1.out k2)⟩
  clear hp2 k2 hT d1 d2 d3 hl
  go_wp2
  go_ret
  exact ⟨rfl, HF.out⟩

set_option maxRecDepth 100000 in
set_option maxHeartbeats 1000000 in
theorem lined_forget (h : Inv own U w wb q bw bd ws ds ps m m n none0) (hU : Keys U) (hps : ps.length ≤ 2000000000000) {i : Nat} (hi : i < ps.length) {qb rb : Nat} (hqb : qb = ps[i].1) (hrb : rb = ps[i].2) (t : St) (hk : t.k = 15) (hs : t.s.size ≤ maxLen) (hkU : noKeyB t.s = false → t.s ∈ U) :
    Calls Tryz.prog 31 #[.pointer (some ⟨wb, 0, none⟩), .agg #[.pointer (some ⟨qb, 0, none⟩), .pointer (some ⟨rb, 0, none⟩)], .agg t.arr] w (Went own U w wb q ps (m + 1) (n + 1)) := by
  have hB := below2 w (.cells #[.pointer (some ⟨qb, 0, none⟩), .pointer (some ⟨rb, 0, none⟩)] 96) (.cells t.arr 86)
  have hA := box2a w (.cells #[.pointer (some ⟨qb, 0, none⟩), .pointer (some ⟨rb, 0, none⟩)] 96) (.cells t.arr 86)
  have hA2 := box2b w (.cells #[.pointer (some ⟨qb, 0, none⟩), .pointer (some ⟨rb, 0, none⟩)] 96) (.cells t.arr 86)
  have hI := h.below hB
  have hT0 := hI.th i hi id
  rw [← hqb, ← hrb] at hT0
  have hp := pair_forget hT0 hU t.s hs hkU
  unfold PairOf at hp
  have HARG : Hid (2 * i + 2 < ARG) := by unfold Hid ARG; omega
  have HM : Hid (Moves own w (ownNew own w 0) ((w.alloc (.cells #[.pointer (some ⟨qb, 0, none⟩), .pointer (some ⟨rb, 0, none⟩)] 96)).alloc (.cells t.arr 86))) := Moves.below hB
  have HI : Hid (Inv (ownNew own w 0) U ((w.alloc (.cells #[.pointer (some ⟨qb, 0, none⟩), .pointer (some ⟨rb, 0, none⟩)] 96)).alloc (.cells t.arr 86)) wb q bw bd ws ds ps m m n none0) := hI
  have HIL : Hid (i < ps.length) := hi
  have HQ : Hid (qb = ps[i].1) := hqb
  have HR : Hid (rb = ps[i].2) := hrb
  obtain ⟨k, on, a, b, s, o0, o1, o2, o3, o4, o5, o6, o7, o8, c0, c1, c2, p0, p1, p2, p3⟩ := t
  simp only [St.arr] at hp HM HI hA hA2 hk hs hkU ⊢
  subst hk
  have HA : Hid _ := hA
  have HA2 : Hid _ := hA2
  clear hB hI h hT0 hqb hrb hA hA2 hps hU hkU
  go_enter Tryz.func31, Tryz.ntmps31
  go_wp2_with fail
  refine hp.mono ?_
  rintro e w3 ⟨c, ⟨x, rfl⟩, rfl, k1, hp2⟩
  have b0 := new_kept (by omega) k1 (Nat.le_refl _) HA.out
  have b1 := new_kept (by omega) k1 (Nat.le_succ _) HA2.out
  have hl : w.heap.size + 1 < w3.heap.size := (Array.getElem?_eq_some_iff.1 b1).1
  have d1 : w3.cell? ⟨w.heap.size, 1, none⟩ = some (.pointer (some ⟨rb, 0, none⟩)) := by simp [World.cell?, b0]
  have d2 : w3.cell? ⟨w.heap.size + 1, 4, none⟩ = some (.string s) := by simp [World.cell?, b1]
  have d3 : w3.cell? ⟨w.heap.size + 1, 2, none⟩ = some (.int .i64 a) := by simp [World.cell?, b1]
  have K1 : Hid _ := k1
  clear hp b0 b1 k1
  go_wp2_with fail
  refine hp2.mono ?_
  rintro e w4 ⟨rfl, k2, hT⟩
  have HF : Hid (∃ own' bw bd ws ds m', Inv own' U w4 wb q bw bd ws ds ps m' m' (n + 1) none0 ∧ m' ≤ m + 1 ∧ Moves own w own' w4) :=
    ⟨_, bw, bd, ws, ds, m, HI.out.pair HARG.out HIL.out K1.out k2 HQ.out HR.out hT, Nat.le_succ _, HM.out.trans (Moves.pair HARG.out K1.out k2)⟩
  clear hp2 k2 hT d1 d2 d3 hl
  go_wp2
  go_ret
  exact ⟨rfl, HF.out⟩
end

end Go.Proofs.YtdgfjneapialdaaGreatDoor
namespace Go.Proofs.YtdgfjneapialdaaGreatDoor
open Go Go.RowKit Go.Maps Go.Lib Go.Sort

section
variable {own : Nat → Nat} {U : List ByteArray} {w : World} {wb : Nat} {q bw bd : Value} {ws ds : List Value} {ps : List (Nat × Nat)} {m n : Nat}

set_option maxRecDepth 100000 in
set_option maxHeartbeats 1000000 in
theorem lined_take (h : Inv own U w wb q bw bd ws ds ps m m n none0) (hU : Keys U) (hps : ps.length ≤ 2000000000000) {i : Nat} (hi : i < ps.length) {qb rb : Nat} (hqb : qb = ps[i].1) (hrb : rb = ps[i].2) (t : St) (hk : t.k = 16) :
    Calls Tryz.prog 31 #[.pointer (some ⟨wb, 0, none⟩), .agg #[.pointer (some ⟨qb, 0, none⟩), .pointer (some ⟨rb, 0, none⟩)], .agg t.arr] w (Went own U w wb q ps (m + 1) (n + 1)) := by
  have hB := below2 w (.cells #[.pointer (some ⟨qb, 0, none⟩), .pointer (some ⟨rb, 0, none⟩)] 96) (.cells t.arr 86)
  have hA := box2a w (.cells #[.pointer (some ⟨qb, 0, none⟩), .pointer (some ⟨rb, 0, none⟩)] 96) (.cells t.arr 86)
  have hA2 := box2b w (.cells #[.pointer (some ⟨qb, 0, none⟩), .pointer (some ⟨rb, 0, none⟩)] 96) (.cells t.arr 86)
  have hI := h.below hB
  have hT0 := hI.th i hi id
  rw [← hqb, ← hrb] at hT0
  have hp := pair_take hT0 hU
  unfold PairOf at hp
  have HARG : Hid (2 * i + 2 < ARG) := by unfold Hid ARG; omega
  have HM : Hid (Moves own w (ownNew own w 0) ((w.alloc (.cells #[.pointer (some ⟨qb, 0, none⟩), .pointer (some ⟨rb, 0, none⟩)] 96)).alloc (.cells t.arr 86))) := Moves.below hB
  have HI : Hid (Inv (ownNew own w 0) U ((w.alloc (.cells #[.pointer (some ⟨qb, 0, none⟩), .pointer (some ⟨rb, 0, none⟩)] 96)).alloc (.cells t.arr 86)) wb q bw bd ws ds ps m m n none0) := hI
  have HIL : Hid (i < ps.length) := hi
  have HQ : Hid (qb = ps[i].1) := hqb
  have HR : Hid (rb = ps[i].2) := hrb
  obtain ⟨k, on, a, b, s, o0, o1, o2, o3, o4, o5, o6, o7, o8, c0, c1, c2, p0, p1, p2, p3⟩ := t
  simp only [St.arr] at hp HM HI hA hA2 hk ⊢
  subst hk
  have HA : Hid _ := hA
  have HA2 : Hid _ := hA2
  clear hB hI h hT0 hqb hrb hA hA2 hps hU
  go_enter Tryz.func31, Tryz.ntmps31
  go_wp2_with fail
  refine hp.mono ?_
  rintro e w3 ⟨c, ⟨kk, bb, rfl, hkk⟩, rfl, k1, hp2⟩
  have b0 := new_kept (by omega) k1 (Nat.le_refl _) HA.out
  have b1 := new_kept (by omega) k1 (Nat.le_succ _) HA2.out
  have hl : w.heap.size + 1 < w3.heap.size := (Array.getElem?_eq_some_iff.1 b1).1
  have d1 : w3.cell? ⟨w.heap.size, 1, none⟩ = some (.pointer (some ⟨rb, 0, none⟩)) := by simp [World.cell?, b0]
  have d2 : w3.cell? ⟨w.heap.size + 1, 4, none⟩ = some (.string s) := by simp [World.cell?, b1]
  have d3 : w3.cell? ⟨w.heap.size + 1, 2, none⟩ = some (.int .i64 a) := by simp [World.cell?, b1]
  have K1 : Hid _ := k1
  clear hp b0 b1 k1
  go_wp2_with fail
  refine hp2.mono ?_
  rintro e w4 ⟨rfl, k2, hT⟩
  have HF : Hid (∃ own' bw bd ws ds m', Inv own' U w4 wb q bw bd ws ds ps m' m' (n + 1) none0 ∧ m' ≤ m + 1 ∧ Moves own w own' w4) :=
    ⟨_, bw, bd, ws, ds, m, HI.out.pair HARG.out HIL.out K1.out k2 HQ.out HR.out hT, Nat.le_succ _, HM.out.trans (Moves.pair HARG.out K1.out k2)⟩
  clear hp2 k2 hT d1 d2 d3 hl
  go_wp2
  go_ret
  exact ⟨rfl, HF.out⟩

set_option maxRecDepth 100000 in
set_option maxHeartbeats 1000000 in
theorem lined_done (h : Inv own U w wb q bw bd ws ds ps m m n none0) (hU : Keys U) (hps : ps.length ≤ 2000000000000) {i : Nat} (hi : i < ps.length) {qb rb : Nat} (hqb : qb = ps[i].1) (hrb : rb = ps[i].2) (t : St) (hk : t.k = 17) (hs : t.s.size ≤ maxLen) (hkU : noKeyB t.s = false → t.s ∈ U) :
    Calls Tryz.prog 31 #[.pointer (some ⟨wb, 0, none⟩), .agg #[.pointer (some ⟨qb, 0, none⟩), .pointer (some ⟨rb, 0, none⟩)], .agg t.arr] w (Went own U w wb q ps (m + 1) (n + 1)) := by
  have hB := below2 w (.cells #[.pointer (some ⟨qb, 0, none⟩), .pointer (some ⟨rb, 0, none⟩)] 96) (.cells t.arr 86)
  have hA := box2a w (.cells #[.pointer (some ⟨qb, 0, none⟩), .pointer (some ⟨rb, 0, none⟩)] 96) (.cells t.arr 86)
  have hA2 := box2b w (.cells #[.pointer (some ⟨qb, 0, none⟩), .pointer (some ⟨rb, 0, none⟩)] 96) (.cells t.arr 86)
  have hI := h.below hB
  have hT0 := hI.th i hi id
  rw [← hqb, ← hrb] at hT0
  have hp := pair_done hT0 hU t.s hs hkU
  unfold PairOf at hp
  have HARG : Hid (2 * i + 2 < ARG) := by unfold Hid ARG; omega
  have HM : Hid (Moves own w (ownNew own w 0) ((w.alloc (.cells #[.pointer (some ⟨qb, 0, none⟩), .pointer (some ⟨rb, 0, none⟩)] 96)).alloc (.cells t.arr 86))) := Moves.below hB
  have HI : Hid (Inv (ownNew own w 0) U ((w.alloc (.cells #[.pointer (some ⟨qb, 0, none⟩), .pointer (some ⟨rb, 0, none⟩)] 96)).alloc (.cells t.arr 86)) wb q bw bd ws ds ps m m n none0) := hI
  have HIL : Hid (i < ps.length) := hi
  have HQ : Hid (qb = ps[i].1) := hqb
  have HR : Hid (rb = ps[i].2) := hrb
  obtain ⟨k, on, a, b, s, o0, o1, o2, o3, o4, o5, o6, o7, o8, c0, c1, c2, p0, p1, p2, p3⟩ := t
  simp only [St.arr] at hp HM HI hA hA2 hk hs hkU ⊢
  subst hk
  have HA : Hid _ := hA
  have HA2 : Hid _ := hA2
  clear hB hI h hT0 hqb hrb hA hA2 hps hU hkU
  go_enter Tryz.func31, Tryz.ntmps31
  go_wp2_with fail
  refine hp.mono ?_
  rintro e w3 ⟨c, ⟨x, rfl⟩, rfl, k1, hp2⟩
  have b0 := new_kept (by omega) k1 (Nat.le_refl _) HA.out
  have b1 := new_kept (by omega) k1 (Nat.le_succ _) HA2.out
  have hl : w.heap.size + 1 < w3.heap.size := (Array.getElem?_eq_some_iff.1 b1).1
  have d1 : w3.cell? ⟨w.heap.size, 1, none⟩ = some (.pointer (some ⟨rb, 0, none⟩)) := by simp [World.cell?, b0]
  have d2 : w3.cell? ⟨w.heap.size + 1, 4, none⟩ = some (.string s) := by simp [World.cell?, b1]
  have d3 : w3.cell? ⟨w.heap.size + 1, 2, none⟩ = some (.int .i64 a) := by simp [World.cell?, b1]
  have K1 : Hid _ := k1
  clear hp b0 b1 k1
  go_wp2_with fail
  refine hp2.mono ?_
  rintro e w4 ⟨rfl, k2, hT⟩
  have HF : Hid (∃ own' bw bd ws ds m', Inv own' U w4 wb q bw bd ws ds ps m' m' (n + 1) none0 ∧ m' ≤ m + 1 ∧ Moves own w own' w4) :=
    ⟨_, bw, bd, ws, ds, m, HI.out.pair HARG.out HIL.out K1.out k2 HQ.out HR.out hT, Nat.le_succ _, HM.out.trans (Moves.pair HARG.out K1.out k2)⟩
  clear hp2 k2 hT d1 d2 d3 hl
  go_wp2
  go_ret
  exact ⟨rfl, HF.out⟩

set_option maxRecDepth 100000 in
set_option maxHeartbeats 1000000 in
theorem lined_tick (h : Inv own U w wb q bw bd ws ds ps m m n none0) (hU : Keys U) (hn : n ≤ 1000000000000) (hps : ps.length ≤ 2000000000000) {i : Nat} (hi : i < ps.length) {qb rb : Nat} (hqb : qb = ps[i].1) (hrb : rb = ps[i].2) (t : St) (hk : t.k = 18) :
    Calls Tryz.prog 31 #[.pointer (some ⟨wb, 0, none⟩), .agg #[.pointer (some ⟨qb, 0, none⟩), .pointer (some ⟨rb, 0, none⟩)], .agg t.arr] w (Went own U w wb q ps (m + 1) (n + 1)) := by
  have hB := below2 w (.cells #[.pointer (some ⟨qb, 0, none⟩), .pointer (some ⟨rb, 0, none⟩)] 96) (.cells t.arr 86)
  have hA := box2a w (.cells #[.pointer (some ⟨qb, 0, none⟩), .pointer (some ⟨rb, 0, none⟩)] 96) (.cells t.arr 86)
  have hA2 := box2b w (.cells #[.pointer (some ⟨qb, 0, none⟩), .pointer (some ⟨rb, 0, none⟩)] 96) (.cells t.arr 86)
  have hI := h.below hB
  have hT0 := hI.th i hi id
  rw [← hqb, ← hrb] at hT0
  have hp := pair_tick hT0 hn hU
  unfold PairOf at hp
  have HARG : Hid (2 * i + 2 < ARG) := by unfold Hid ARG; omega
  have HM : Hid (Moves own w (ownNew own w 0) ((w.alloc (.cells #[.pointer (some ⟨qb, 0, none⟩), .pointer (some ⟨rb, 0, none⟩)] 96)).alloc (.cells t.arr 86))) := Moves.below hB
  have HI : Hid (Inv (ownNew own w 0) U ((w.alloc (.cells #[.pointer (some ⟨qb, 0, none⟩), .pointer (some ⟨rb, 0, none⟩)] 96)).alloc (.cells t.arr 86)) wb q bw bd ws ds ps m m n none0) := hI
  have HIL : Hid (i < ps.length) := hi
  have HQ : Hid (qb = ps[i].1) := hqb
  have HR : Hid (rb = ps[i].2) := hrb
  obtain ⟨k, on, a, b, s, o0, o1, o2, o3, o4, o5, o6, o7, o8, c0, c1, c2, p0, p1, p2, p3⟩ := t
  simp only [St.arr] at hp HM HI hA hA2 hk ⊢
  subst hk
  have HA : Hid _ := hA
  have HA2 : Hid _ := hA2
  clear hB hI h hT0 hqb hrb hA hA2 hn hps hU
  go_enter Tryz.func31, Tryz.ntmps31
  go_wp2_with fail
  refine hp.mono ?_
  rintro e w3 ⟨c, rfl, rfl, k1, hp2⟩
  have b0 := new_kept (by omega) k1 (Nat.le_refl _) HA.out
  have b1 := new_kept (by omega) k1 (Nat.le_succ _) HA2.out
  have hl : w.heap.size + 1 < w3.heap.size := (Array.getElem?_eq_some_iff.1 b1).1
  have d1 : w3.cell? ⟨w.heap.size, 1, none⟩ = some (.pointer (some ⟨rb, 0, none⟩)) := by simp [World.cell?, b0]
  have d2 : w3.cell? ⟨w.heap.size + 1, 4, none⟩ = some (.string s) := by simp [World.cell?, b1]
  have d3 : w3.cell? ⟨w.heap.size + 1, 2, none⟩ = some (.int .i64 a) := by simp [World.cell?, b1]
  have K1 : Hid _ := k1
  clear hp b0 b1 k1
  go_wp2_with fail
  refine hp2.mono ?_
  rintro e w4 ⟨rfl, k2, hT⟩
  have HF : Hid (∃ own' bw bd ws ds m', Inv own' U w4 wb q bw bd ws ds ps m' m' (n + 1) none0 ∧ m' ≤ m + 1 ∧ Moves own w own' w4) :=
    ⟨_, bw, bd, ws, ds, m, HI.out.pair HARG.out HIL.out K1.out k2 HQ.out HR.out hT, Nat.le_succ _, HM.out.trans (Moves.pair HARG.out K1.out k2)⟩
  clear hp2 k2 hT d1 d2 d3 hl
  go_wp2
  go_ret
  exact ⟨rfl, HF.out⟩
end

end Go.Proofs.YtdgfjneapialdaaGreatDoor
