import Derived.Test.YtdgfjneapialdaaGreatDoorTh
namespace Go.Proofs.YtdgfjneapialdaaGreatDoor.S
open Go Go.RowKit Go.Maps

section
variable {C : Nat → Prop} {w : World} {rb : Nat} {lim born : Int} {pv ev nv : Value} {sp sv : List Value} {pre past : List (List Ob)} {l : List Ob} {es : List (Int × Ob)}

set_option maxRecDepth 100000 in
set_option maxHeartbeats 1000000 in
theorem rup_bad0  (s : ByteArray) (u v r t ow ph : Int) (g : Bool) (w : World) (rb : Nat) (hm : countsB r t = false) :
    Calls Tryz.prog 58 #[.pointer (some ⟨rb, 0, none⟩), .agg #[.int .u8 0, .string s, .int .i64 u, .int .i64 v, .int .i64 r, .int .i64 t, .int .i64 ow, .int .u8 ph, .bool g]] w fun e w' => e = .returned (.tuple #[.agg #[.int .u8 0, .string ⟨#[]⟩, .int .i64 0, .int .i64 0, .int .i64 0, .int .i64 0, .int .i64 0, .int .u8 0, .bool false], .int .i64 1]) ∧ Below w.heap.size w w' := by
  have hc := fun W => numbers_any (0) s u v r t ow ph g W
  simp only [hm] at hc
  go_enter Tryz.func58, Tryz.ntmps58
  go_wp2_with fail
  refine (hc _).mono ?_
  rintro e w1 ⟨rfl, hb⟩
  have hz := lt_of_back2 hb
  obtain ⟨⟨y0, y1, y2, y3, y4, y5, y6, y7, y8⟩, yf⟩ := nine ((hb.block w.heap.size (by simp; omega)).trans (alloc_last' w _ _))
  obtain ⟨⟨z0, z1, z2, z3, z4, z5, z6, z7, z8⟩, zf⟩ := nine ((hb.block (w.heap.size + 1) (by simp)).trans (alloc_last2 w _ _))
  clear hc
  go_wp2
  refine bodyPost_ret (v := .tuple #[.agg #[.int .u8 0, .string ⟨#[]⟩, .int .i64 0, .int .i64 0, .int .i64 0, .int .i64 0, .int .i64 0, .int .u8 0, .bool false], .int .i64 1]) (by simp [results, Tryz.results58, go_sem, z0, z1, z2, z3, z4, z5, z6, z7, z8]) rfl ⟨rfl, ?_⟩
  rw [← set9_def]
  exact set9_below (N := w.heap.size + 1) (belowUp (belowAl (belowAl (Below.refl _ _) _) _) hb) (by omega) _ _ _ _ _ _ _ _ _

set_option maxRecDepth 100000 in
set_option maxHeartbeats 1000000 in
theorem rup_bad1  (s : ByteArray) (u v r t ow ph : Int) (g : Bool) (w : World) (rb : Nat) (hp : decide (ph > 2) = true) :
    Calls Tryz.prog 58 #[.pointer (some ⟨rb, 0, none⟩), .agg #[.int .u8 1, .string s, .int .i64 u, .int .i64 v, .int .i64 r, .int .i64 t, .int .i64 ow, .int .u8 ph, .bool g]] w fun e w' => e = .returned (.tuple #[.agg #[.int .u8 0, .string ⟨#[]⟩, .int .i64 0, .int .i64 0, .int .i64 0, .int .i64 0, .int .i64 0, .int .u8 0, .bool false], .int .i64 1]) ∧ Below w.heap.size w w' := by
  have hc := fun W => numbers_any (1) s u v r t ow ph g W
  generalize countsB r t = m at hc
  go_enter Tryz.func58, Tryz.ntmps58
  go_wp2_with fail
  refine (hc _).mono ?_
  rintro e w1 ⟨rfl, hb⟩
  have hz := lt_of_back2 hb
  obtain ⟨⟨y0, y1, y2, y3, y4, y5, y6, y7, y8⟩, yf⟩ := nine ((hb.block w.heap.size (by simp; omega)).trans (alloc_last' w _ _))
  obtain ⟨⟨z0, z1, z2, z3, z4, z5, z6, z7, z8⟩, zf⟩ := nine ((hb.block (w.heap.size + 1) (by simp)).trans (alloc_last2 w _ _))
  clear hc
  go_wp2
  refine bodyPost_ret (v := .tuple #[.agg #[.int .u8 0, .string ⟨#[]⟩, .int .i64 0, .int .i64 0, .int .i64 0, .int .i64 0, .int .i64 0, .int .u8 0, .bool false], .int .i64 1]) (by simp [results, Tryz.results58, go_sem, z0, z1, z2, z3, z4, z5, z6, z7, z8]) rfl ⟨rfl, ?_⟩
  rw [← set9_def]
  exact set9_below (N := w.heap.size + 1) (belowUp (belowAl (belowAl (Below.refl _ _) _) _) hb) (by omega) _ _ _ _ _ _ _ _ _

set_option maxRecDepth 100000 in
set_option maxHeartbeats 1000000 in
theorem rup_bad2 (k : Int) (s : ByteArray) (u v r t ow ph : Int) (g : Bool) (w : World) (rb : Nat) (hk1 : decide (k > 1) = true) :
    Calls Tryz.prog 58 #[.pointer (some ⟨rb, 0, none⟩), .agg #[.int .u8 k, .string s, .int .i64 u, .int .i64 v, .int .i64 r, .int .i64 t, .int .i64 ow, .int .u8 ph, .bool g]] w fun e w' => e = .returned (.tuple #[.agg #[.int .u8 0, .string ⟨#[]⟩, .int .i64 0, .int .i64 0, .int .i64 0, .int .i64 0, .int .i64 0, .int .u8 0, .bool false], .int .i64 1]) ∧ Below w.heap.size w w' := by
  have hc := fun W => numbers_any (k) s u v r t ow ph g W
  generalize countsB r t = m at hc
  go_enter Tryz.func58, Tryz.ntmps58
  go_wp2_with fail
  refine (hc _).mono ?_
  rintro e w1 ⟨rfl, hb⟩
  have hz := lt_of_back2 hb
  obtain ⟨⟨y0, y1, y2, y3, y4, y5, y6, y7, y8⟩, yf⟩ := nine ((hb.block w.heap.size (by simp; omega)).trans (alloc_last' w _ _))
  obtain ⟨⟨z0, z1, z2, z3, z4, z5, z6, z7, z8⟩, zf⟩ := nine ((hb.block (w.heap.size + 1) (by simp)).trans (alloc_last2 w _ _))
  clear hc
  go_wp2
  refine bodyPost_ret (v := .tuple #[.agg #[.int .u8 0, .string ⟨#[]⟩, .int .i64 0, .int .i64 0, .int .i64 0, .int .i64 0, .int .i64 0, .int .u8 0, .bool false], .int .i64 1]) (by simp [results, Tryz.results58, go_sem, z0, z1, z2, z3, z4, z5, z6, z7, z8]) rfl ⟨rfl, ?_⟩
  rw [← set9_def]
  exact set9_below (N := w.heap.size + 1) (belowUp (belowAl (belowAl (Below.refl _ _) _) _) hb) (by omega) _ _ _ _ _ _ _ _ _

set_option maxRecDepth 100000 in
set_option maxHeartbeats 1000000 in
theorem rup_err0 (h : IsRef C w rb lim born pv ev sv past es) (hsv : sv = sp ++ [nv]) (hpa : past = pre ++ [l]) (hb : pre.length ≤ 600) (hl : l.length ≤ 10000) (hk : ∀ x ∈ l, 0 ≤ x.kind ∧ x.kind ≤ 255) (s : ByteArray) (u v r t ow ph : Int) (g : Bool) (er : Int) (hm : countsB r t = true)  (hA : tgtA (decide (pre.length = 600)) l 0 s u v = (Ob.zero, er)) (er0 : (er != 0) = true) :
    Calls Tryz.prog 58 #[.pointer (some ⟨rb, 0, none⟩), .agg #[.int .u8 0, .string s, .int .i64 u, .int .i64 v, .int .i64 r, .int .i64 t, .int .i64 ow, .int .u8 ph, .bool g]] w fun e w' => e = .returned (.tuple #[.agg #[.int .u8 0, .string ⟨#[]⟩, .int .i64 0, .int .i64 0, .int .i64 0, .int .i64 0, .int .i64 0, .int .u8 0, .bool false], .int .i64 er]) ∧ Below w.heap.size w w' := by
  have hc := fun W => numbers_any (0) s u v r t ow ph g W
  simp only [hm] at hc
  have h2 := h
  rw [hsv, hpa] at h2
  have HT : Hid (∀ W, Below w.heap.size w W → Calls Tryz.prog 124 #[.pointer (some ⟨rb, 0, none⟩), .int .u8 0, .string s, .int .i64 u, .int .i64 v] W fun e w' => e = .returned (.tuple #[.agg #[.int .u8 0, .string ⟨#[]⟩, .int .i64 0, .int .i64 0, .int .i64 0, .int .i64 0, .int .i64 0, .int .u8 0, .bool false], .int .i64 er]) ∧ Below W.heap.size W w') := by
    intro W hW
    have hg := target_any (h2.below hW) hb hl hk 0 s (by omega) (by omega) u v
    rw [hA] at hg
    exact hg
  have hrb := h.lt
  clear h h2 hl hk hA hb hsv hpa
  go_enter Tryz.func58, Tryz.ntmps58
  go_wp2_with fail
  refine (hc _).mono ?_
  rintro e w1 ⟨rfl, hb⟩
  have hz := lt_of_back2 hb
  have hA : Hid (w1.heap[w.heap.size]? = some (.cells #[.int .u8 0, .string s, .int .i64 u, .int .i64 v, .int .i64 r, .int .i64 t, .int .i64 ow, .int .u8 ph, .bool g] 84 (0, 0))) := (hb.block w.heap.size (by simp; omega)).trans (alloc_last' w _ _)
  obtain ⟨⟨y0, y1, y2, y3, y4, y5, y6, y7, y8⟩, yf⟩ := nine hA.out
  have hB : Hid (w1.heap[w.heap.size + 1]? = some (.cells #[.int .u8 0, .string ⟨#[]⟩, .int .i64 0, .int .i64 0, .int .i64 0, .int .i64 0, .int .i64 0, .int .u8 0, .bool false] 84 (0, 0))) := (hb.block (w.heap.size + 1) (by simp)).trans (alloc_last2 w _ _)
  have HB1 : Hid (Below w.heap.size w w1) := belowUp (belowAl (belowAl (Below.refl _ _) _) _) hb
  have ht := HT.out w1 HB1.out
  clear hc hb HT
  go_wp2_with fail
  refine ht.mono ?_
  rintro e w2 ⟨rfl, hb2⟩
  have hz2 : w.heap.size + 1 < w2.heap.size := Nat.lt_of_lt_of_le hz hb2.size
  have hz3 : w.heap.size < w2.heap.size := by omega
  have HB2 : Hid (Below w.heap.size w w2) := belowUp HB1.out hb2
  clear y0 y1 y2 y3 y4 y5 y6 y7 y8 yf ht
  obtain ⟨⟨y0, y1, y2, y3, y4, y5, y6, y7, y8⟩, yf⟩ := nine ((hb2.block w.heap.size (by omega)).trans hA.out)
  obtain ⟨⟨z0, z1, z2, z3, z4, z5, z6, z7, z8⟩, zf⟩ := nine ((hb2.block (w.heap.size + 1) hz).trans hB.out)
  clear hb2
  go_wp2
  refine bodyPost_ret (v := .tuple #[.agg #[.int .u8 0, .string ⟨#[]⟩, .int .i64 0, .int .i64 0, .int .i64 0, .int .i64 0, .int .i64 0, .int .u8 0, .bool false], .int .i64 er]) (by simp [results, Tryz.results58, go_sem, z0, z1, z2, z3, z4, z5, z6, z7, z8, hz2]) rfl ⟨rfl, ?_⟩
  rw [← set9_def]
  exact belowAl (set9_below (N := w.heap.size + 1) HB2.out (by omega) _ _ _ _ _ _ _ _ _) _

set_option maxRecDepth 100000 in
set_option maxHeartbeats 1000000 in
theorem rup_err1 (h : IsRef C w rb lim born pv ev sv past es) (hsv : sv = sp ++ [nv]) (hpa : past = pre ++ [l]) (hb : pre.length ≤ 600) (hl : l.length ≤ 10000) (hk : ∀ x ∈ l, 0 ≤ x.kind ∧ x.kind ≤ 255) (s : ByteArray) (u v r t ow ph : Int) (g : Bool) (er : Int) (hp : decide (ph > 2) = false)  (hA : tgtA (decide (pre.length = 600)) l 1 s u v = (Ob.zero, er)) (er0 : (er != 0) = true) :
    Calls Tryz.prog 58 #[.pointer (some ⟨rb, 0, none⟩), .agg #[.int .u8 1, .string s, .int .i64 u, .int .i64 v, .int .i64 r, .int .i64 t, .int .i64 ow, .int .u8 ph, .bool g]] w fun e w' => e = .returned (.tuple #[.agg #[.int .u8 0, .string ⟨#[]⟩, .int .i64 0, .int .i64 0, .int .i64 0, .int .i64 0, .int .i64 0, .int .u8 0, .bool false], .int .i64 er]) ∧ Below w.heap.size w w' := by
  have hc := fun W => numbers_any (1) s u v r t ow ph g W
  generalize countsB r t = m at hc
  have h2 := h
  rw [hsv, hpa] at h2
  have HT : Hid (∀ W, Below w.heap.size w W → Calls Tryz.prog 124 #[.pointer (some ⟨rb, 0, none⟩), .int .u8 1, .string s, .int .i64 u, .int .i64 v] W fun e w' => e = .returned (.tuple #[.agg #[.int .u8 0, .string ⟨#[]⟩, .int .i64 0, .int .i64 0, .int .i64 0, .int .i64 0, .int .i64 0, .int .u8 0, .bool false], .int .i64 er]) ∧ Below W.heap.size W w') := by
    intro W hW
    have hg := target_any (h2.below hW) hb hl hk 1 s (by omega) (by omega) u v
    rw [hA] at hg
    exact hg
  have hrb := h.lt
  clear h h2 hl hk hA hb hsv hpa
  go_enter Tryz.func58, Tryz.ntmps58
  go_wp2_with fail
  refine (hc _).mono ?_
  rintro e w1 ⟨rfl, hb⟩
  have hz := lt_of_back2 hb
  have hA : Hid (w1.heap[w.heap.size]? = some (.cells #[.int .u8 1, .string s, .int .i64 u, .int .i64 v, .int .i64 r, .int .i64 t, .int .i64 ow, .int .u8 ph, .bool g] 84 (0, 0))) := (hb.block w.heap.size (by simp; omega)).trans (alloc_last' w _ _)
  obtain ⟨⟨y0, y1, y2, y3, y4, y5, y6, y7, y8⟩, yf⟩ := nine hA.out
  have hB : Hid (w1.heap[w.heap.size + 1]? = some (.cells #[.int .u8 0, .string ⟨#[]⟩, .int .i64 0, .int .i64 0, .int .i64 0, .int .i64 0, .int .i64 0, .int .u8 0, .bool false] 84 (0, 0))) := (hb.block (w.heap.size + 1) (by simp)).trans (alloc_last2 w _ _)
  have HB1 : Hid (Below w.heap.size w w1) := belowUp (belowAl (belowAl (Below.refl _ _) _) _) hb
  have ht := HT.out w1 HB1.out
  clear hc hb HT
  go_wp2_with fail
  refine ht.mono ?_
  rintro e w2 ⟨rfl, hb2⟩
  have hz2 : w.heap.size + 1 < w2.heap.size := Nat.lt_of_lt_of_le hz hb2.size
  have hz3 : w.heap.size < w2.heap.size := by omega
  have HB2 : Hid (Below w.heap.size w w2) := belowUp HB1.out hb2
  clear y0 y1 y2 y3 y4 y5 y6 y7 y8 yf ht
  obtain ⟨⟨y0, y1, y2, y3, y4, y5, y6, y7, y8⟩, yf⟩ := nine ((hb2.block w.heap.size (by omega)).trans hA.out)
  obtain ⟨⟨z0, z1, z2, z3, z4, z5, z6, z7, z8⟩, zf⟩ := nine ((hb2.block (w.heap.size + 1) hz).trans hB.out)
  clear hb2
  go_wp2
  refine bodyPost_ret (v := .tuple #[.agg #[.int .u8 0, .string ⟨#[]⟩, .int .i64 0, .int .i64 0, .int .i64 0, .int .i64 0, .int .i64 0, .int .u8 0, .bool false], .int .i64 er]) (by simp [results, Tryz.results58, go_sem, z0, z1, z2, z3, z4, z5, z6, z7, z8, hz2]) rfl ⟨rfl, ?_⟩
  rw [← set9_def]
  exact belowAl (set9_below (N := w.heap.size + 1) HB2.out (by omega) _ _ _ _ _ _ _ _ _) _

set_option maxRecDepth 100000 in
set_option maxHeartbeats 1000000 in
theorem rup_same0 (h : IsRef C w rb lim born pv ev sv past es) (hsv : sv = sp ++ [nv]) (hpa : past = pre ++ [l]) (hb : pre.length ≤ 600) (hl : l.length ≤ 10000) (hk : ∀ x ∈ l, 0 ≤ x.kind ∧ x.kind ≤ 255) (s : ByteArray) (u v r t ow ph : Int) (g : Bool) (a0 : Int) (a1 : ByteArray) (a2 a3 a4 a5 a6 a7 : Int) (a8 : Bool) (hm : countsB r t = true) (hq1 : (a4 == r) = true) (hq2 : (a5 == t) = true) (hA : tgtA (decide (pre.length = 600)) l 0 s u v = (⟨a0, a1, a2, a3, a4, a5, a6, a7, a8⟩, 0)) :
    Calls Tryz.prog 58 #[.pointer (some ⟨rb, 0, none⟩), .agg #[.int .u8 0, .string s, .int .i64 u, .int .i64 v, .int .i64 r, .int .i64 t, .int .i64 ow, .int .u8 ph, .bool g]] w fun e w' => e = .returned (.tuple #[.agg #[.int .u8 a0, .string a1, .int .i64 a2, .int .i64 a3, .int .i64 a4, .int .i64 a5, .int .i64 a6, .int .u8 a7, .bool a8], .int .i64 0]) ∧ Below w.heap.size w w' := by
  have hc := fun W => numbers_any (0) s u v r t ow ph g W
  simp only [hm] at hc
  have h2 := h
  rw [hsv, hpa] at h2
  have HT : Hid (∀ W, Below w.heap.size w W → Calls Tryz.prog 124 #[.pointer (some ⟨rb, 0, none⟩), .int .u8 0, .string s, .int .i64 u, .int .i64 v] W fun e w' => e = .returned (.tuple #[.agg #[.int .u8 a0, .string a1, .int .i64 a2, .int .i64 a3, .int .i64 a4, .int .i64 a5, .int .i64 a6, .int .u8 a7, .bool a8], .int .i64 0]) ∧ Below W.heap.size W w') := by
    intro W hW
    have hg := target_any (h2.below hW) hb hl hk 0 s (by omega) (by omega) u v
    rw [hA] at hg
    exact hg
  have hrb := h.lt
  clear h h2 hl hk hA hb hsv hpa
  go_enter Tryz.func58, Tryz.ntmps58
  go_wp2_with fail
  refine (hc _).mono ?_
  rintro e w1 ⟨rfl, hb⟩
  have hz := lt_of_back2 hb
  have hA : Hid (w1.heap[w.heap.size]? = some (.cells #[.int .u8 0, .string s, .int .i64 u, .int .i64 v, .int .i64 r, .int .i64 t, .int .i64 ow, .int .u8 ph, .bool g] 84 (0, 0))) := (hb.block w.heap.size (by simp; omega)).trans (alloc_last' w _ _)
  obtain ⟨⟨y0, y1, y2, y3, y4, y5, y6, y7, y8⟩, yf⟩ := nine hA.out
  have hB : Hid (w1.heap[w.heap.size + 1]? = some (.cells #[.int .u8 0, .string ⟨#[]⟩, .int .i64 0, .int .i64 0, .int .i64 0, .int .i64 0, .int .i64 0, .int .u8 0, .bool false] 84 (0, 0))) := (hb.block (w.heap.size + 1) (by simp)).trans (alloc_last2 w _ _)
  have HB1 : Hid (Below w.heap.size w w1) := belowUp (belowAl (belowAl (Below.refl _ _) _) _) hb
  have ht := HT.out w1 HB1.out
  clear hc hb HT
  go_wp2_with fail
  refine ht.mono ?_
  rintro e w2 ⟨rfl, hb2⟩
  have hz2 : w.heap.size + 1 < w2.heap.size := Nat.lt_of_lt_of_le hz hb2.size
  have hz3 : w.heap.size < w2.heap.size := by omega
  have HB2 : Hid (Below w.heap.size w w2) := belowUp HB1.out hb2
  clear y0 y1 y2 y3 y4 y5 y6 y7 y8 yf ht
  obtain ⟨⟨y0, y1, y2, y3, y4, y5, y6, y7, y8⟩, yf⟩ := nine ((hb2.block w.heap.size (by omega)).trans hA.out)
  obtain ⟨⟨z0, z1, z2, z3, z4, z5, z6, z7, z8⟩, zf⟩ := nine ((hb2.block (w.heap.size + 1) hz).trans hB.out)
  clear hb2
  go_wp2
  refine bodyPost_ret (v := .tuple #[.agg #[.int .u8 a0, .string a1, .int .i64 a2, .int .i64 a3, .int .i64 a4, .int .i64 a5, .int .i64 a6, .int .u8 a7, .bool a8], .int .i64 0]) (by simp [results, Tryz.results58, go_sem, z0, z1, z2, z3, z4, z5, z6, z7, z8, hz2]) rfl ⟨rfl, ?_⟩
  rw [← set9_def]
  exact belowAl (set9_below (N := w.heap.size + 1) HB2.out (by omega) _ _ _ _ _ _ _ _ _) _

set_option maxRecDepth 100000 in
set_option maxHeartbeats 1000000 in
theorem rup_same1 (h : IsRef C w rb lim born pv ev sv past es) (hsv : sv = sp ++ [nv]) (hpa : past = pre ++ [l]) (hb : pre.length ≤ 600) (hl : l.length ≤ 10000) (hk : ∀ x ∈ l, 0 ≤ x.kind ∧ x.kind ≤ 255) (s : ByteArray) (u v r t ow ph : Int) (g : Bool) (a0 : Int) (a1 : ByteArray) (a2 a3 a4 a5 a6 a7 : Int) (a8 : Bool) (hp : decide (ph > 2) = false) (hq1 : (a7 == ph) = true) (hA : tgtA (decide (pre.length = 600)) l 1 s u v = (⟨a0, a1, a2, a3, a4, a5, a6, a7, a8⟩, 0)) :
    Calls Tryz.prog 58 #[.pointer (some ⟨rb, 0, none⟩), .agg #[.int .u8 1, .string s, .int .i64 u, .int .i64 v, .int .i64 r, .int .i64 t, .int .i64 ow, .int .u8 ph, .bool g]] w fun e w' => e = .returned (.tuple #[.agg #[.int .u8 a0, .string a1, .int .i64 a2, .int .i64 a3, .int .i64 a4, .int .i64 a5, .int .i64 a6, .int .u8 a7, .bool a8], .int .i64 0]) ∧ Below w.heap.size w w' := by
  have hc := fun W => numbers_any (1) s u v r t ow ph g W
  generalize countsB r t = m at hc
  have h2 := h
  rw [hsv, hpa] at h2
  have HT : Hid (∀ W, Below w.heap.size w W → Calls Tryz.prog 124 #[.pointer (some ⟨rb, 0, none⟩), .int .u8 1, .string s, .int .i64 u, .int .i64 v] W fun e w' => e = .returned (.tuple #[.agg #[.int .u8 a0, .string a1, .int .i64 a2, .int .i64 a3, .int .i64 a4, .int .i64 a5, .int .i64 a6, .int .u8 a7, .bool a8], .int .i64 0]) ∧ Below W.heap.size W w') := by
    intro W hW
    have hg := target_any (h2.below hW) hb hl hk 1 s (by omega) (by omega) u v
    rw [hA] at hg
    exact hg
  have hrb := h.lt
  clear h h2 hl hk hA hb hsv hpa
  go_enter Tryz.func58, Tryz.ntmps58
  go_wp2_with fail
  refine (hc _).mono ?_
  rintro e w1 ⟨rfl, hb⟩
  have hz := lt_of_back2 hb
  have hA : Hid (w1.heap[w.heap.size]? = some (.cells #[.int .u8 1, .string s, .int .i64 u, .int .i64 v, .int .i64 r, .int .i64 t, .int .i64 ow, .int .u8 ph, .bool g] 84 (0, 0))) := (hb.block w.heap.size (by simp; omega)).trans (alloc_last' w _ _)
  obtain ⟨⟨y0, y1, y2, y3, y4, y5, y6, y7, y8⟩, yf⟩ := nine hA.out
  have hB : Hid (w1.heap[w.heap.size + 1]? = some (.cells #[.int .u8 0, .string ⟨#[]⟩, .int .i64 0, .int .i64 0, .int .i64 0, .int .i64 0, .int .i64 0, .int .u8 0, .bool false] 84 (0, 0))) := (hb.block (w.heap.size + 1) (by simp)).trans (alloc_last2 w _ _)
  have HB1 : Hid (Below w.heap.size w w1) := belowUp (belowAl (belowAl (Below.refl _ _) _) _) hb
  have ht := HT.out w1 HB1.out
  clear hc hb HT
  go_wp2_with fail
  refine ht.mono ?_
  rintro e w2 ⟨rfl, hb2⟩
  have hz2 : w.heap.size + 1 < w2.heap.size := Nat.lt_of_lt_of_le hz hb2.size
  have hz3 : w.heap.size < w2.heap.size := by omega
  have HB2 : Hid (Below w.heap.size w w2) := belowUp HB1.out hb2
  clear y0 y1 y2 y3 y4 y5 y6 y7 y8 yf ht
  obtain ⟨⟨y0, y1, y2, y3, y4, y5, y6, y7, y8⟩, yf⟩ := nine ((hb2.block w.heap.size (by omega)).trans hA.out)
  obtain ⟨⟨z0, z1, z2, z3, z4, z5, z6, z7, z8⟩, zf⟩ := nine ((hb2.block (w.heap.size + 1) hz).trans hB.out)
  clear hb2
  go_wp2
  refine bodyPost_ret (v := .tuple #[.agg #[.int .u8 a0, .string a1, .int .i64 a2, .int .i64 a3, .int .i64 a4, .int .i64 a5, .int .i64 a6, .int .u8 a7, .bool a8], .int .i64 0]) (by simp [results, Tryz.results58, go_sem, z0, z1, z2, z3, z4, z5, z6, z7, z8, hz2]) rfl ⟨rfl, ?_⟩
  rw [← set9_def]
  exact belowAl (set9_below (N := w.heap.size + 1) HB2.out (by omega) _ _ _ _ _ _ _ _ _) _

set_option maxRecDepth 100000 in
set_option maxHeartbeats 1000000 in
theorem rup_write0a (h : IsRef C w rb lim born pv ev sv past es) (hsv : sv = sp ++ [nv]) (hpa : past = pre ++ [l]) (hC : ∀ b, C b → b < w.heap.size) (hb : pre.length ≤ 600) (hl : l.length ≤ 10000) (hes : es.length ≤ 10000) (hk : ∀ x ∈ l, 0 ≤ x.kind ∧ x.kind ≤ 255) (hnd : l.Pairwise fun a b => ¬ (a.kind = b.kind ∧ a.name = b.name)) (s : ByteArray) (u v r t ow ph : Int) (g : Bool) (a0 : Int) (a1 : ByteArray) (a2 a3 a4 a5 a6 a7 : Int) (a8 : Bool) (hm : countsB r t = true) (hq1 : (a4 == r) = false) (hv6 : pre.length < 600) (hk0 : 0 ≤ a0) (hk1 : a0 ≤ 255) (hA : tgtA (decide (pre.length = 600)) l 0 s u v = (⟨a0, a1, a2, a3, a4, a5, a6, a7, a8⟩, 0)) :
    Calls Tryz.prog 58 #[.pointer (some ⟨rb, 0, none⟩), .agg #[.int .u8 0, .string s, .int .i64 u, .int .i64 v, .int .i64 r, .int .i64 t, .int .i64 ow, .int .u8 ph, .bool g]] w fun e w' => e = .returned (.tuple #[.agg #[.int .u8 a0, .string a1, .int .i64 a2, .int .i64 ((pre.length : Int) + 1), .int .i64 r, .int .i64 t, .int .i64 a6, .int .u8 a7, .bool a8], .int .i64 0]) ∧ Wrote C w w' rb lim born sv past es l 1 ⟨a0, a1, a2, ((pre.length : Int) + 1), r, t, a6, a7, a8⟩ := by
  have hc := fun W => numbers_any (0) s u v r t ow ph g W
  simp only [hm] at hc
  have HO : Hid (IsRef C w rb lim born pv ev sv past es) := h
  have HSV : Hid (sv = sp ++ [nv]) := hsv
  have HPA : Hid (past = pre ++ [l]) := hpa
  have HW : Hid (∀ b, C b → b < w.heap.size) := hC
  have HE : Hid (pre.length < 600 ∧ l.length ≤ 10000 ∧ es.length ≤ 10000 ∧ (∀ x ∈ l, 0 ≤ x.kind ∧ x.kind ≤ 255) ∧ l.Pairwise fun a b => ¬ (a.kind = b.kind ∧ a.name = b.name)) := ⟨hv6, hl, hes, hk, hnd⟩
  have h2 := h
  rw [hsv, hpa] at h2
  have HT : Hid (∀ W, Below w.heap.size w W → Calls Tryz.prog 124 #[.pointer (some ⟨rb, 0, none⟩), .int .u8 0, .string s, .int .i64 u, .int .i64 v] W fun e w' => e = .returned (.tuple #[.agg #[.int .u8 a0, .string a1, .int .i64 a2, .int .i64 a3, .int .i64 a4, .int .i64 a5, .int .i64 a6, .int .u8 a7, .bool a8], .int .i64 0]) ∧ Below W.heap.size W w') := by
    intro W hW
    have hg := target_any (h2.below hW) hb hl hk 0 s (by omega) (by omega) u v
    rw [hA] at hg
    exact hg
  have hrb := h.lt
  clear h h2 hl hk hA hb hsv hpa hC hes hnd
  go_enter Tryz.func58, Tryz.ntmps58
  go_wp2_with fail
  refine (hc _).mono ?_
  rintro e w1 ⟨rfl, hb⟩
  have hz := lt_of_back2 hb
  have hA : Hid (w1.heap[w.heap.size]? = some (.cells #[.int .u8 0, .string s, .int .i64 u, .int .i64 v, .int .i64 r, .int .i64 t, .int .i64 ow, .int .u8 ph, .bool g] 84 (0, 0))) := (hb.block w.heap.size (by simp; omega)).trans (alloc_last' w _ _)
  obtain ⟨⟨y0, y1, y2, y3, y4, y5, y6, y7, y8⟩, yf⟩ := nine hA.out
  have hB : Hid (w1.heap[w.heap.size + 1]? = some (.cells #[.int .u8 0, .string ⟨#[]⟩, .int .i64 0, .int .i64 0, .int .i64 0, .int .i64 0, .int .i64 0, .int .u8 0, .bool false] 84 (0, 0))) := (hb.block (w.heap.size + 1) (by simp)).trans (alloc_last2 w _ _)
  have HB1 : Hid (Below w.heap.size w w1) := belowUp (belowAl (belowAl (Below.refl _ _) _) _) hb
  have ht := HT.out w1 HB1.out
  clear hc hb HT
  go_wp2_with fail
  refine ht.mono ?_
  rintro e w2 ⟨rfl, hb2⟩
  have hz2 : w.heap.size + 1 < w2.heap.size := Nat.lt_of_lt_of_le hz hb2.size
  have hz3 : w.heap.size < w2.heap.size := by omega
  have HB2 : Hid (Below w.heap.size w w2) := belowUp HB1.out hb2
  clear y0 y1 y2 y3 y4 y5 y6 y7 y8 yf ht
  obtain ⟨⟨y0, y1, y2, y3, y4, y5, y6, y7, y8⟩, yf⟩ := nine ((hb2.block w.heap.size (by omega)).trans hA.out)
  have hB2 : Below w.heap.size w (w2.alloc (.cells #[.int .u8 a0, .string a1, .int .i64 a2, .int .i64 a3, .int .i64 r, .int .i64 t, .int .i64 a6, .int .u8 a7, .bool a8] 84)) := belowAl HB2.out _
  have hwr := write_any (HO.out.cg hB2) HSV.out HPA.out (cg_lt HW.out hB2) HE.out.1 HE.out.2.1 HE.out.2.2.1 HE.out.2.2.2.1 HE.out.2.2.2.2 1 a0 a1 a2 a3 r t a6 a7 a8 hk0 hk1
  have H6 : Hid ((w2.alloc (.cells #[.int .u8 a0, .string a1, .int .i64 a2, .int .i64 a3, .int .i64 r, .int .i64 t, .int .i64 a6, .int .u8 a7, .bool a8] 84)).heap[w.heap.size + 1]? = some (.cells #[.int .u8 0, .string ⟨#[]⟩, .int .i64 0, .int .i64 0, .int .i64 0, .int .i64 0, .int .i64 0, .int .u8 0, .bool false] 84 (0, 0))) := (Below.heap_alloc _ _ _ hz2).trans ((hb2.block (w.heap.size + 1) hz).trans hB.out)
  have HB3 : Hid _ := hB2
  have hsz2 : w.heap.size + 1 < (w2.alloc (.cells #[.int .u8 a0, .string a1, .int .i64 a2, .int .i64 a3, .int .i64 r, .int .i64 t, .int .i64 a6, .int .u8 a7, .bool a8] 84)).heap.size := by simp; omega
  clear hb2 hB2
  go_wp2_with fail
  refine hwr.mono ?_
  rintro e w3 ⟨rfl, hw3⟩
  have HW3 : Hid (Wrote (CG C w (w2.alloc (.cells #[.int .u8 a0, .string a1, .int .i64 a2, .int .i64 a3, .int .i64 r, .int .i64 t, .int .i64 a6, .int .u8 a7, .bool a8] 84))) (w2.alloc (.cells #[.int .u8 a0, .string a1, .int .i64 a2, .int .i64 a3, .int .i64 r, .int .i64 t, .int .i64 a6, .int .u8 a7, .bool a8] 84)) w3 rb lim born sv past es l 1 ⟨a0, a1, a2, ((pre.length : Int) + 1), r, t, a6, a7, a8⟩) := hw3
  obtain ⟨⟨z0, z1, z2, z3, z4, z5, z6, z7, z8⟩, zf⟩ := nine ((HW3.out.new (by omega) hsz2).trans H6.out)
  have hz4 : w.heap.size + 1 < w3.heap.size := Nat.lt_of_lt_of_le hsz2 HW3.out.2.size
  clear hw3 hwr y0 y1 y2 y3 y4 y5 y6 y7 y8 yf
  go_wp2
  refine bodyPost_ret (v := .tuple #[.agg #[.int .u8 a0, .string a1, .int .i64 a2, .int .i64 ((pre.length : Int) + 1), .int .i64 r, .int .i64 t, .int .i64 a6, .int .u8 a7, .bool a8], .int .i64 0]) (by simp [results, Tryz.results58, go_sem, z0, z1, z2, z3, z4, z5, z6, z7, z8]) rfl ⟨rfl, ?_⟩
  rw [← set9_def]
  exact HW3.out.out HB3.out (by omega) hsz2 HW.out _ _ _ _ _ _ _ _ _

set_option maxRecDepth 100000 in
set_option maxHeartbeats 1000000 in
theorem rup_write0b (h : IsRef C w rb lim born pv ev sv past es) (hsv : sv = sp ++ [nv]) (hpa : past = pre ++ [l]) (hC : ∀ b, C b → b < w.heap.size) (hb : pre.length ≤ 600) (hl : l.length ≤ 10000) (hes : es.length ≤ 10000) (hk : ∀ x ∈ l, 0 ≤ x.kind ∧ x.kind ≤ 255) (hnd : l.Pairwise fun a b => ¬ (a.kind = b.kind ∧ a.name = b.name)) (s : ByteArray) (u v r t ow ph : Int) (g : Bool) (a0 : Int) (a1 : ByteArray) (a2 a3 a4 a5 a6 a7 : Int) (a8 : Bool) (hm : countsB r t = true) (hq1 : (a4 == r) = true) (hq2 : (a5 == t) = false) (hv6 : pre.length < 600) (hk0 : 0 ≤ a0) (hk1 : a0 ≤ 255) (hA : tgtA (decide (pre.length = 600)) l 0 s u v = (⟨a0, a1, a2, a3, a4, a5, a6, a7, a8⟩, 0)) :
    Calls Tryz.prog 58 #[.pointer (some ⟨rb, 0, none⟩), .agg #[.int .u8 0, .string s, .int .i64 u, .int .i64 v, .int .i64 r, .int .i64 t, .int .i64 ow, .int .u8 ph, .bool g]] w fun e w' => e = .returned (.tuple #[.agg #[.int .u8 a0, .string a1, .int .i64 a2, .int .i64 ((pre.length : Int) + 1), .int .i64 r, .int .i64 t, .int .i64 a6, .int .u8 a7, .bool a8], .int .i64 0]) ∧ Wrote C w w' rb lim born sv past es l 1 ⟨a0, a1, a2, ((pre.length : Int) + 1), r, t, a6, a7, a8⟩ := by
  have hc := fun W => numbers_any (0) s u v r t ow ph g W
  simp only [hm] at hc
  have HO : Hid (IsRef C w rb lim born pv ev sv past es) := h
  have HSV : Hid (sv = sp ++ [nv]) := hsv
  have HPA : Hid (past = pre ++ [l]) := hpa
  have HW : Hid (∀ b, C b → b < w.heap.size) := hC
  have HE : Hid (pre.length < 600 ∧ l.length ≤ 10000 ∧ es.length ≤ 10000 ∧ (∀ x ∈ l, 0 ≤ x.kind ∧ x.kind ≤ 255) ∧ l.Pairwise fun a b => ¬ (a.kind = b.kind ∧ a.name = b.name)) := ⟨hv6, hl, hes, hk, hnd⟩
  have h2 := h
  rw [hsv, hpa] at h2
  have HT : Hid (∀ W, Below w.heap.size w W → Calls Tryz.prog 124 #[.pointer (some ⟨rb, 0, none⟩), .int .u8 0, .string s, .int .i64 u, .int .i64 v] W fun e w' => e = .returned (.tuple #[.agg #[.int .u8 a0, .string a1, .int .i64 a2, .int .i64 a3, .int .i64 a4, .int .i64 a5, .int .i64 a6, .int .u8 a7, .bool a8], .int .i64 0]) ∧ Below W.heap.size W w') := by
    intro W hW
    have hg := target_any (h2.below hW) hb hl hk 0 s (by omega) (by omega) u v
    rw [hA] at hg
    exact hg
  have hrb := h.lt
  clear h h2 hl hk hA hb hsv hpa hC hes hnd
  go_enter Tryz.func58, Tryz.ntmps58
  go_wp2_with fail
  refine (hc _).mono ?_
  rintro e w1 ⟨rfl, hb⟩
  have hz := lt_of_back2 hb
  have hA : Hid (w1.heap[w.heap.size]? = some (.cells #[.int .u8 0, .string s, .int .i64 u, .int .i64 v, .int .i64 r, .int .i64 t, .int .i64 ow, .int .u8 ph, .bool g] 84 (0, 0))) := (hb.block w.heap.size (by simp; omega)).trans (alloc_last' w _ _)
  obtain ⟨⟨y0, y1, y2, y3, y4, y5, y6, y7, y8⟩, yf⟩ := nine hA.out
  have hB : Hid (w1.heap[w.heap.size + 1]? = some (.cells #[.int .u8 0, .string ⟨#[]⟩, .int .i64 0, .int .i64 0, .int .i64 0, .int .i64 0, .int .i64 0, .int .u8 0, .bool false] 84 (0, 0))) := (hb.block (w.heap.size + 1) (by simp)).trans (alloc_last2 w _ _)
  have HB1 : Hid (Below w.heap.size w w1) := belowUp (belowAl (belowAl (Below.refl _ _) _) _) hb
  have ht := HT.out w1 HB1.out
  clear hc hb HT
  go_wp2_with fail
  refine ht.mono ?_
  rintro e w2 ⟨rfl, hb2⟩
  have hz2 : w.heap.size + 1 < w2.heap.size := Nat.lt_of_lt_of_le hz hb2.size
  have hz3 : w.heap.size < w2.heap.size := by omega
  have HB2 : Hid (Below w.heap.size w w2) := belowUp HB1.out hb2
  clear y0 y1 y2 y3 y4 y5 y6 y7 y8 yf ht
  obtain ⟨⟨y0, y1, y2, y3, y4, y5, y6, y7, y8⟩, yf⟩ := nine ((hb2.block w.heap.size (by omega)).trans hA.out)
  have hB2 : Below w.heap.size w (w2.alloc (.cells #[.int .u8 a0, .string a1, .int .i64 a2, .int .i64 a3, .int .i64 r, .int .i64 t, .int .i64 a6, .int .u8 a7, .bool a8] 84)) := belowAl HB2.out _
  have hwr := write_any (HO.out.cg hB2) HSV.out HPA.out (cg_lt HW.out hB2) HE.out.1 HE.out.2.1 HE.out.2.2.1 HE.out.2.2.2.1 HE.out.2.2.2.2 1 a0 a1 a2 a3 r t a6 a7 a8 hk0 hk1
  have H6 : Hid ((w2.alloc (.cells #[.int .u8 a0, .string a1, .int .i64 a2, .int .i64 a3, .int .i64 r, .int .i64 t, .int .i64 a6, .int .u8 a7, .bool a8] 84)).heap[w.heap.size + 1]? = some (.cells #[.int .u8 0, .string ⟨#[]⟩, .int .i64 0, .int .i64 0, .int .i64 0, .int .i64 0, .int .i64 0, .int .u8 0, .bool false] 84 (0, 0))) := (Below.heap_alloc _ _ _ hz2).trans ((hb2.block (w.heap.size + 1) hz).trans hB.out)
  have HB3 : Hid _ := hB2
  have hsz2 : w.heap.size + 1 < (w2.alloc (.cells #[.int .u8 a0, .string a1, .int .i64 a2, .int .i64 a3, .int .i64 r, .int .i64 t, .int .i64 a6, .int .u8 a7, .bool a8] 84)).heap.size := by simp; omega
  clear hb2 hB2
  go_wp2_with fail
  refine hwr.mono ?_
  rintro e w3 ⟨rfl, hw3⟩
  have HW3 : Hid (Wrote (CG C w (w2.alloc (.cells #[.int .u8 a0, .string a1, .int .i64 a2, .int .i64 a3, .int .i64 r, .int .i64 t, .int .i64 a6, .int .u8 a7, .bool a8] 84))) (w2.alloc (.cells #[.int .u8 a0, .string a1, .int .i64 a2, .int .i64 a3, .int .i64 r, .int .i64 t, .int .i64 a6, .int .u8 a7, .bool a8] 84)) w3 rb lim born sv past es l 1 ⟨a0, a1, a2, ((pre.length : Int) + 1), r, t, a6, a7, a8⟩) := hw3
  obtain ⟨⟨z0, z1, z2, z3, z4, z5, z6, z7, z8⟩, zf⟩ := nine ((HW3.out.new (by omega) hsz2).trans H6.out)
  have hz4 : w.heap.size + 1 < w3.heap.size := Nat.lt_of_lt_of_le hsz2 HW3.out.2.size
  clear hw3 hwr y0 y1 y2 y3 y4 y5 y6 y7 y8 yf
  go_wp2
  refine bodyPost_ret (v := .tuple #[.agg #[.int .u8 a0, .string a1, .int .i64 a2, .int .i64 ((pre.length : Int) + 1), .int .i64 r, .int .i64 t, .int .i64 a6, .int .u8 a7, .bool a8], .int .i64 0]) (by simp [results, Tryz.results58, go_sem, z0, z1, z2, z3, z4, z5, z6, z7, z8]) rfl ⟨rfl, ?_⟩
  rw [← set9_def]
  exact HW3.out.out HB3.out (by omega) hsz2 HW.out _ _ _ _ _ _ _ _ _

set_option maxRecDepth 100000 in
set_option maxHeartbeats 1000000 in
theorem rup_write1 (h : IsRef C w rb lim born pv ev sv past es) (hsv : sv = sp ++ [nv]) (hpa : past = pre ++ [l]) (hC : ∀ b, C b → b < w.heap.size) (hb : pre.length ≤ 600) (hl : l.length ≤ 10000) (hes : es.length ≤ 10000) (hk : ∀ x ∈ l, 0 ≤ x.kind ∧ x.kind ≤ 255) (hnd : l.Pairwise fun a b => ¬ (a.kind = b.kind ∧ a.name = b.name)) (s : ByteArray) (u v r t ow ph : Int) (g : Bool) (a0 : Int) (a1 : ByteArray) (a2 a3 a4 a5 a6 a7 : Int) (a8 : Bool) (hp : decide (ph > 2) = false) (hq1 : (a7 == ph) = false) (hv6 : pre.length < 600) (hk0 : 0 ≤ a0) (hk1 : a0 ≤ 255) (hA : tgtA (decide (pre.length = 600)) l 1 s u v = (⟨a0, a1, a2, a3, a4, a5, a6, a7, a8⟩, 0)) :
    Calls Tryz.prog 58 #[.pointer (some ⟨rb, 0, none⟩), .agg #[.int .u8 1, .string s, .int .i64 u, .int .i64 v, .int .i64 r, .int .i64 t, .int .i64 ow, .int .u8 ph, .bool g]] w fun e w' => e = .returned (.tuple #[.agg #[.int .u8 a0, .string a1, .int .i64 a2, .int .i64 ((pre.length : Int) + 1), .int .i64 a4, .int .i64 a5, .int .i64 a6, .int .u8 ph, .bool a8], .int .i64 0]) ∧ Wrote C w w' rb lim born sv past es l 1 ⟨a0, a1, a2, ((pre.length : Int) + 1), a4, a5, a6, ph, a8⟩ := by
  have hc := fun W => numbers_any (1) s u v r t ow ph g W
  generalize countsB r t = m at hc
  have HO : Hid (IsRef C w rb lim born pv ev sv past es) := h
  have HSV : Hid (sv = sp ++ [nv]) := hsv
  have HPA : Hid (past = pre ++ [l]) := hpa
  have HW : Hid (∀ b, C b → b < w.heap.size) := hC
  have HE : Hid (pre.length < 600 ∧ l.length ≤ 10000 ∧ es.length ≤ 10000 ∧ (∀ x ∈ l, 0 ≤ x.kind ∧ x.kind ≤ 255) ∧ l.Pairwise fun a b => ¬ (a.kind = b.kind ∧ a.name = b.name)) := ⟨hv6, hl, hes, hk, hnd⟩
  have h2 := h
  rw [hsv, hpa] at h2
  have HT : Hid (∀ W, Below w.heap.size w W → Calls Tryz.prog 124 #[.pointer (some ⟨rb, 0, none⟩), .int .u8 1, .string s, .int .i64 u, .int .i64 v] W fun e w' => e = .returned (.tuple #[.agg #[.int .u8 a0, .string a1, .int .i64 a2, .int .i64 a3, .int .i64 a4, .int .i64 a5, .int .i64 a6, .int .u8 a7, .bool a8], .int .i64 0]) ∧ Below W.heap.size W w') := by
    intro W hW
    have hg := target_any (h2.below hW) hb hl hk 1 s (by omega) (by omega) u v
    rw [hA] at hg
    exact hg
  have hrb := h.lt
  clear h h2 hl hk hA hb hsv hpa hC hes hnd
  go_enter Tryz.func58, Tryz.ntmps58
  go_wp2_with fail
  refine (hc _).mono ?_
  rintro e w1 ⟨rfl, hb⟩
  have hz := lt_of_back2 hb
  have hA : Hid (w1.heap[w.heap.size]? = some (.cells #[.int .u8 1, .string s, .int .i64 u, .int .i64 v, .int .i64 r, .int .i64 t, .int .i64 ow, .int .u8 ph, .bool g] 84 (0, 0))) := (hb.block w.heap.size (by simp; omega)).trans (alloc_last' w _ _)
  obtain ⟨⟨y0, y1, y2, y3, y4, y5, y6, y7, y8⟩, yf⟩ := nine hA.out
  have hB : Hid (w1.heap[w.heap.size + 1]? = some (.cells #[.int .u8 0, .string ⟨#[]⟩, .int .i64 0, .int .i64 0, .int .i64 0, .int .i64 0, .int .i64 0, .int .u8 0, .bool false] 84 (0, 0))) := (hb.block (w.heap.size + 1) (by simp)).trans (alloc_last2 w _ _)
  have HB1 : Hid (Below w.heap.size w w1) := belowUp (belowAl (belowAl (Below.refl _ _) _) _) hb
  have ht := HT.out w1 HB1.out
  clear hc hb HT
  go_wp2_with fail
  refine ht.mono ?_
  rintro e w2 ⟨rfl, hb2⟩
  have hz2 : w.heap.size + 1 < w2.heap.size := Nat.lt_of_lt_of_le hz hb2.size
  have hz3 : w.heap.size < w2.heap.size := by omega
  have HB2 : Hid (Below w.heap.size w w2) := belowUp HB1.out hb2
  clear y0 y1 y2 y3 y4 y5 y6 y7 y8 yf ht
  obtain ⟨⟨y0, y1, y2, y3, y4, y5, y6, y7, y8⟩, yf⟩ := nine ((hb2.block w.heap.size (by omega)).trans hA.out)
  have hB2 : Below w.heap.size w (w2.alloc (.cells #[.int .u8 a0, .string a1, .int .i64 a2, .int .i64 a3, .int .i64 a4, .int .i64 a5, .int .i64 a6, .int .u8 ph, .bool a8] 84)) := belowAl HB2.out _
  have hwr := write_any (HO.out.cg hB2) HSV.out HPA.out (cg_lt HW.out hB2) HE.out.1 HE.out.2.1 HE.out.2.2.1 HE.out.2.2.2.1 HE.out.2.2.2.2 1 a0 a1 a2 a3 a4 a5 a6 ph a8 hk0 hk1
  have H6 : Hid ((w2.alloc (.cells #[.int .u8 a0, .string a1, .int .i64 a2, .int .i64 a3, .int .i64 a4, .int .i64 a5, .int .i64 a6, .int .u8 ph, .bool a8] 84)).heap[w.heap.size + 1]? = some (.cells #[.int .u8 0, .string ⟨#[]⟩, .int .i64 0, .int .i64 0, .int .i64 0, .int .i64 0, .int .i64 0, .int .u8 0, .bool false] 84 (0, 0))) := (Below.heap_alloc _ _ _ hz2).trans ((hb2.block (w.heap.size + 1) hz).trans hB.out)
  have HB3 : Hid _ := hB2
  have hsz2 : w.heap.size + 1 < (w2.alloc (.cells #[.int .u8 a0, .string a1, .int .i64 a2, .int .i64 a3, .int .i64 a4, .int .i64 a5, .int .i64 a6, .int .u8 ph, .bool a8] 84)).heap.size := by simp; omega
  clear hb2 hB2
  go_wp2_with fail
  refine hwr.mono ?_
  rintro e w3 ⟨rfl, hw3⟩
  have HW3 : Hid (Wrote (CG C w (w2.alloc (.cells #[.int .u8 a0, .string a1, .int .i64 a2, .int .i64 a3, .int .i64 a4, .int .i64 a5, .int .i64 a6, .int .u8 ph, .bool a8] 84))) (w2.alloc (.cells #[.int .u8 a0, .string a1, .int .i64 a2, .int .i64 a3, .int .i64 a4, .int .i64 a5, .int .i64 a6, .int .u8 ph, .bool a8] 84)) w3 rb lim born sv past es l 1 ⟨a0, a1, a2, ((pre.length : Int) + 1), a4, a5, a6, ph, a8⟩) := hw3
  obtain ⟨⟨z0, z1, z2, z3, z4, z5, z6, z7, z8⟩, zf⟩ := nine ((HW3.out.new (by omega) hsz2).trans H6.out)
  have hz4 : w.heap.size + 1 < w3.heap.size := Nat.lt_of_lt_of_le hsz2 HW3.out.2.size
  clear hw3 hwr y0 y1 y2 y3 y4 y5 y6 y7 y8 yf
  go_wp2
  refine bodyPost_ret (v := .tuple #[.agg #[.int .u8 a0, .string a1, .int .i64 a2, .int .i64 ((pre.length : Int) + 1), .int .i64 a4, .int .i64 a5, .int .i64 a6, .int .u8 ph, .bool a8], .int .i64 0]) (by simp [results, Tryz.results58, go_sem, z0, z1, z2, z3, z4, z5, z6, z7, z8]) rfl ⟨rfl, ?_⟩
  rw [← set9_def]
  exact HW3.out.out HB3.out (by omega) hsz2 HW.out _ _ _ _ _ _ _ _ _

end

end Go.Proofs.YtdgfjneapialdaaGreatDoor.S
