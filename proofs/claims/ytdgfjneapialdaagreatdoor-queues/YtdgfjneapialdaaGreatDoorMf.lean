import Derived.Test.YtdgfjneapialdaaGreatDoorMc
import Derived.Test.YtdgfjneapialdaaGreatDoorPq
namespace Go.Proofs.YtdgfjneapialdaaGreatDoor
open Go Go.RowKit Go.Maps Go.Lib Go.Sort

section
variable {own : Nat → Nat} {U : List ByteArray} {w : World} {wb : Nat} {q bw bd : Value} {ws ds : List Value} {ps : List (Nat × Nat)} {m n : Nat}

set_option maxRecDepth 100000 in
set_option maxHeartbeats 1000000 in
theorem lined_told (h : Inv own U w wb q bw bd ws ds ps m m n none0) (hU : Keys U) (hm : m ≤ 999999999999) {i : Nat} (hi : i < ps.length) {qb rb : Nat} (hqb : qb = ps[i].1) (hrb : rb = ps[i].2) (t : St) (hk : t.k = 19) :
    Calls Tryz.prog 31 #[.pointer (some ⟨wb, 0, none⟩), .agg #[.pointer (some ⟨qb, 0, none⟩), .pointer (some ⟨rb, 0, none⟩)], .agg t.arr] w (Went own U w wb q ps (m + 1) (n + 1)) := by
  have hB := below2 w (.cells #[.pointer (some ⟨qb, 0, none⟩), .pointer (some ⟨rb, 0, none⟩)] 96) (.cells t.arr 86)
  have hA := box2a w (.cells #[.pointer (some ⟨qb, 0, none⟩), .pointer (some ⟨rb, 0, none⟩)] 96) (.cells t.arr 86)
  have hA2 := box2b w (.cells #[.pointer (some ⟨qb, 0, none⟩), .pointer (some ⟨rb, 0, none⟩)] 96) (.cells t.arr 86)
  have hI := h.below hB
  have hT0 := hI.th i hi id
  rw [← hqb, ← hrb] at hT0
  have hp := pair_told hT0 hU
  have HM : Hid (Moves own w (ownNew own w 0) ((w.alloc (.cells #[.pointer (some ⟨qb, 0, none⟩), .pointer (some ⟨rb, 0, none⟩)] 96)).alloc (.cells t.arr 86))) := Moves.below hB
  have HI : Hid (Inv (ownNew own w 0) U ((w.alloc (.cells #[.pointer (some ⟨qb, 0, none⟩), .pointer (some ⟨rb, 0, none⟩)] 96)).alloc (.cells t.arr 86)) wb q bw bd ws ds ps m m n none0) := hI
  have HMM : Hid (m ≤ 999999999999) := hm
  obtain ⟨k, on, a, b, s, o0, o1, o2, o3, o4, o5, o6, o7, o8, c0, c1, c2, p0, p1, p2, p3⟩ := t
  simp only [St.arr] at hp HM HI hA hA2 hk ⊢
  subst hk
  have HA : Hid _ := hA
  have HA2 : Hid _ := hA2
  clear hB hI h hT0 hqb hrb hA hA2 hU hm hi
  obtain ⟨W, hW⟩ : ∃ W, W = (w.alloc (.cells #[.pointer (some ⟨qb, 0, none⟩), .pointer (some ⟨rb, 0, none⟩)] 96)).alloc (.cells #[.int .i64 19, .int .i64 on, .int .i64 a, .int .i64 b, .string s, .int .u8 o0, .string o1, .int .i64 o2, .int .i64 o3, .int .i64 o4, .int .i64 o5, .int .i64 o6, .int .u8 o7, .bool o8, .int .i64 c0, .int .i64 c1, .int .i64 c2, .int .u8 p0, .string p1, .int .i64 p2, .int .i64 p3] 86) := ⟨_, rfl⟩
  rw [← hW] at hp HM HI HA HA2
  have HWW : Hid (W = _) := hW
  rw [hW] at hp
  clear hW
  go_enter Tryz.func31, Tryz.ntmps31
  go_wp2_with fail
  refine hp.mono ?_
  rintro e w3 ⟨va, vb, rfl, hb3, hp2⟩
  rw [← HWW.out] at hb3 hp2
  have b0 : w3.heap[w.heap.size]? = _ := (hb3.block _ (Array.getElem?_eq_some_iff.1 HA.out).1).trans HA.out
  have hl : w.heap.size < w3.heap.size := (Array.getElem?_eq_some_iff.1 b0).1
  have d1 : w3.cell? ⟨w.heap.size, 1, none⟩ = some (.pointer (some ⟨rb, 0, none⟩)) := by simp [World.cell?, b0]
  have HB3 : Hid _ := hb3
  clear hp b0 hb3
  go_wp2_with fail
  refine hp2.mono ?_
  rintro e w4 ⟨va2, vb2, rfl, hb4, x, y, hx, hy, r1, r2, r3, r4⟩
  have hb : Below W.heap.size W w4 := HB3.out.trans (hb4.mono HB3.out.size)
  have hI4 := HI.out.below hb
  have hp3 := tolds_any hI4.desk HMM.out HMM.out hx hy r1 r2 r3 r4 HI.out.desk.tab.lt hb.size (fun k hk _ => ownNew_new hk)
    (fun v hv k e => by obtain ⟨j, hj, rfl⟩ := List.getElem_of_mem hv; exact (HI.out.desk.w1 j hj).1.lt e) (fun v hv k e => by obtain ⟨j, hj, rfl⟩ := List.getElem_of_mem hv; exact (HI.out.desk.d1 j hj).1.lt e)
  have HI4 : Hid _ := hI4
  have HM4 : Hid _ := HM.out.trans (Moves.below hb)
  have hl4 := hI4.desk.isw.lt
  clear hp2 d1 hl hb hb4 hI4 hx hy r1 r2 r3 r4
  go_wp2_with fail
  refine hp3.mono ?_
  rintro e w5 ⟨rfl, k5, bw', bd', ws', ds', hD⟩
  have HF : Hid (∃ own' bw bd ws ds m', Inv own' U w5 wb q bw bd ws ds ps m' m' (n + 1) none0 ∧ m' ≤ m + 1 ∧ Moves own w own' w5) :=
    ⟨_, bw', bd', ws', ds', m + 1, ⟨hD, fun i hi hH => ((HI4.out.th i hi hH).other (by omega) (by omega) k5).more⟩, Nat.le_refl _, HM4.out.trans (Moves.call (by unfold ARG; omega) k5)⟩
  clear hp3 k5 hD
  go_wp2
  go_ret
  exact ⟨rfl, HF.out⟩
end

end Go.Proofs.YtdgfjneapialdaaGreatDoor
