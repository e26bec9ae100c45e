import Derived.Test.YtdgfjneapialdaaGreatDoorSn
namespace Go.Proofs.YtdgfjneapialdaaGreatDoor.S
open Go Go.RowKit Go.Maps

set_option maxHeartbeats 400000 in
/-- Update of what may not be. -/
theorem update_invalid (k : Int) (s : ByteArray) (u v r t ow ph : Int) (g : Bool) (w : World) (sb : Nat) (hr : rightUpB k r t ph = false) :
    Calls Tryz.prog 57 #[.pointer (some ⟨sb, 0, none⟩), .agg #[.int .u8 k, .string s, .int .i64 u, .int .i64 v, .int .i64 r, .int .i64 t, .int .i64 ow, .int .u8 ph, .bool g]] w fun e w' => e = .returned (.tuple #[.agg #[.int .u8 0, .string ⟨#[]⟩, .int .i64 0, .int .i64 0, .int .i64 0, .int .i64 0, .int .i64 0, .int .u8 0, .bool false], .int .i64 1]) ∧ Below w.heap.size w w' := by
  have hc := fun W => rightToUpdate_any k s u v r t ow ph g W
  simp only [hr] at hc
  go_enter Tryz.func57, Tryz.ntmps57
  go_wp2_with fail
  refine (hc _).mono ?_
  rintro e w1 ⟨rfl, hb⟩
  have hz := lt_of_back2 hb
  obtain ⟨⟨z0, z1, z2, z3, z4, z5, z6, z7, z8⟩, zf⟩ := nine ((hb.block (w.heap.size + 1) (by simp)).trans (alloc_last2 w _ _))
  go_wp2
  refine bodyPost_ret (v := .tuple #[.agg #[.int .u8 0, .string ⟨#[]⟩, .int .i64 0, .int .i64 0, .int .i64 0, .int .i64 0, .int .i64 0, .int .u8 0, .bool false], .int .i64 1]) (by simp [results, Tryz.results57, go_sem, z0, z1, z2, z3, z4, z5, z6, z7, z8]) rfl ⟨rfl, ?_⟩
  rw [← set9_def]
  exact set9_below (N := w.heap.size + 1) (belowUp (belowAl (belowAl (Below.refl _ _) _) _) hb) (by omega) _ _ _ _ _ _ _ _ _

set_option maxHeartbeats 400000 in
/-- Update, refused. -/
theorem update_refused (k : Int) (s : ByteArray) (u v r t ow ph : Int) (g : Bool) (w : World) (sb mb : Nat) (lim ver cre : Int) (log : List Value) (n : Nat) (D : DataW Unit) (er : Int) (her : (er != 0) = true) (hr : rightUpB k r t ph = true) (h : IsStore w sb mb lim ver cre log n D)
    (hc4 : ∀ W, IsStore W sb mb lim ver cre log n D → Calls Tryz.prog 121 #[.pointer (some ⟨sb, 0, none⟩), .int .u8 k, .string s] W fun e w' => e = .returned (.tuple #[.agg #[.int .u8 0, .string ⟨#[]⟩, .int .i64 0, .int .i64 0, .int .i64 0, .int .i64 0, .int .i64 0, .int .u8 0, .bool false], .int .i64 er]) ∧ Below W.heap.size W w') :
    Calls Tryz.prog 57 #[.pointer (some ⟨sb, 0, none⟩), .agg #[.int .u8 k, .string s, .int .i64 u, .int .i64 v, .int .i64 r, .int .i64 t, .int .i64 ow, .int .u8 ph, .bool g]] w fun e w' => e = .returned (.tuple #[.agg #[.int .u8 0, .string ⟨#[]⟩, .int .i64 0, .int .i64 0, .int .i64 0, .int .i64 0, .int .i64 0, .int .u8 0, .bool false], .int .i64 er]) ∧ Below w.heap.size w w' := by
  have hc := fun W => rightToUpdate_any k s u v r t ow ph g W
  simp only [hr] at hc
  have H : Hid (IsStore w sb mb lim ver cre log n D) := h
  have HC : Hid (∀ W, IsStore W sb mb lim ver cre log n D → Calls Tryz.prog 121 #[.pointer (some ⟨sb, 0, none⟩), .int .u8 k, .string s] W fun e w' => e = .returned (.tuple #[.agg #[.int .u8 0, .string ⟨#[]⟩, .int .i64 0, .int .i64 0, .int .i64 0, .int .i64 0, .int .i64 0, .int .u8 0, .bool false], .int .i64 er]) ∧ Below W.heap.size W w') := hc4
  clear h hc4
  go_enter Tryz.func57, Tryz.ntmps57
  go_wp2_with fail
  refine (hc _).mono ?_
  rintro e w1 ⟨rfl, hb⟩
  have hz := lt_of_back2 hb
  obtain ⟨⟨y0, y1, y2, y3, y4, y5, y6, y7, y8⟩, yf⟩ := nine ((hb.block w.heap.size (by simp; omega)).trans (alloc_last' w _ _))
  have hB : Hid (w1.heap[w.heap.size + 1]? = some (.cells #[.int .u8 0, .string ⟨#[]⟩, .int .i64 0, .int .i64 0, .int .i64 0, .int .i64 0, .int .i64 0, .int .u8 0, .bool false] 84 (0, 0))) := (hb.block (w.heap.size + 1) (by simp)).trans (alloc_last2 w _ _)
  go_wp2_with fail
  refine (HC.out _ (H.out.below (belowUp (belowAl (belowAl (Below.refl _ _) _) _) hb))).mono ?_
  rintro e w2 ⟨rfl, hb2⟩
  have hz2 : w.heap.size + 1 < w2.heap.size := Nat.lt_of_lt_of_le hz hb2.size
  obtain ⟨⟨z0, z1, z2, z3, z4, z5, z6, z7, z8⟩, zf⟩ := nine ((hb2.block (w.heap.size + 1) hz).trans hB.out)
  go_wp2
  refine bodyPost_ret (v := .tuple #[.agg #[.int .u8 0, .string ⟨#[]⟩, .int .i64 0, .int .i64 0, .int .i64 0, .int .i64 0, .int .i64 0, .int .u8 0, .bool false], .int .i64 er]) (by simp [results, Tryz.results57, go_sem, z0, z1, z2, z3, z4, z5, z6, z7, z8, hz2]) rfl ⟨rfl, ?_⟩
  rw [← set9_def]
  exact belowAl (set9_below (N := w.heap.size + 1) (belowUp (belowUp (belowAl (belowAl (Below.refl _ _) _) _) hb) hb2) (by omega) _ _ _ _ _ _ _ _ _) _

set_option maxHeartbeats 400000 in
/-- Update, another one or another version. -/
theorem update_conflict (k : Int) (s : ByteArray) (u v r t ow ph : Int) (g : Bool) (w : World) (sb mb : Nat) (lim ver cre : Int) (log : List Value) (n : Nat) (D : DataW Unit) (a0 : Int) (a1 : ByteArray) (a2 a3 a4 a5 a6 a7 : Int) (a8 : Bool) (hr : rightUpB k r t ph = true) (h : IsStore w sb mb lim ver cre log n D) (hv : ver ≠ 600) (h0 : 0 ≤ k) (h1 : k ≤ 255) (hs : s.size ≤ maxLen) (ha : At D k s ⟨a0, a1, a2, a3, a4, a5, a6, a7, a8⟩) (hoth : (isOtherB u a2 || isOtherB v a3) = true) :
    Calls Tryz.prog 57 #[.pointer (some ⟨sb, 0, none⟩), .agg #[.int .u8 k, .string s, .int .i64 u, .int .i64 v, .int .i64 r, .int .i64 t, .int .i64 ow, .int .u8 ph, .bool g]] w fun e w' => e = .returned (.tuple #[.agg #[.int .u8 0, .string ⟨#[]⟩, .int .i64 0, .int .i64 0, .int .i64 0, .int .i64 0, .int .i64 0, .int .u8 0, .bool false], .int .i64 4]) ∧ Below w.heap.size w w' := by
  have hc := fun W => rightToUpdate_any k s u v r t ow ph g W
  simp only [hr] at hc
  have HC : Hid (∀ W, IsStore W sb mb lim ver cre log n D → Calls Tryz.prog 121 #[.pointer (some ⟨sb, 0, none⟩), .int .u8 k, .string s] W fun e w' => e = .returned (.tuple #[.agg #[.int .u8 a0, .string a1, .int .i64 a2, .int .i64 a3, .int .i64 a4, .int .i64 a5, .int .i64 a6, .int .u8 a7, .bool a8], .int .i64 0]) ∧ Below W.heap.size W w') := fun W hW => forWriting_hit W sb mb lim ver cre log n D k s _ hW hv h0 h1 hs ha
  have H : Hid (IsStore w sb mb lim ver cre log n D) := h
  clear h ha
  have hi1 := fun W => isOther_any u a2 W
  have hi2 := fun W => isOther_any v a3 W
  cases hx : isOtherB u a2
  · have hy : isOtherB v a3 = true := by simpa [hx] using hoth
    simp only [hx] at hi1
    simp only [hy] at hi2
    clear hx hy hoth
    go_enter Tryz.func57, Tryz.ntmps57
    go_wp2_with fail
    refine (hc _).mono ?_
    rintro e w1 ⟨rfl, hb⟩
    have hz := lt_of_back2 hb
    have hA : Hid (w1.heap[w.heap.size]? = some (.cells #[.int .u8 k, .string s, .int .i64 u, .int .i64 v, .int .i64 r, .int .i64 t, .int .i64 ow, .int .u8 ph, .bool g] 84 (0, 0))) := (hb.block w.heap.size (by simp; omega)).trans (alloc_last' w _ _)
    obtain ⟨⟨y0, y1, y2, y3, y4, y5, y6, y7, y8⟩, yf⟩ := nine hA.out
    have hB : Hid (w1.heap[w.heap.size + 1]? = some (.cells #[.int .u8 0, .string ⟨#[]⟩, .int .i64 0, .int .i64 0, .int .i64 0, .int .i64 0, .int .i64 0, .int .u8 0, .bool false] 84 (0, 0))) := (hb.block (w.heap.size + 1) (by simp)).trans (alloc_last2 w _ _)
    go_wp2_with fail
    refine (HC.out _ (H.out.below (belowUp (belowAl (belowAl (Below.refl _ _) _) _) hb))).mono ?_
    rintro e w2 ⟨rfl, hb2⟩
    have hz2 : w.heap.size + 1 < w2.heap.size := Nat.lt_of_lt_of_le hz hb2.size
    have hz3 : w.heap.size < w2.heap.size := by omega
    clear y0 y1 y2 y3 y4 y5 y6 y7 y8 yf
    obtain ⟨⟨y0, y1, y2, y3, y4, y5, y6, y7, y8⟩, yf⟩ := nine ((hb2.block w.heap.size (by omega)).trans hA.out)
    obtain ⟨⟨z0, z1, z2, z3, z4, z5, z6, z7, z8⟩, zf⟩ := nine ((hb2.block (w.heap.size + 1) hz).trans hB.out)
    go_wp2_with fail
    refine (hi1 _).mono ?_
    rintro e w' ⟨rfl, rfl⟩
    go_wp2_with fail
    refine (hi2 _).mono ?_
    rintro e w' ⟨rfl, rfl⟩
    go_wp2
    refine bodyPost_ret (v := .tuple #[.agg #[.int .u8 0, .string ⟨#[]⟩, .int .i64 0, .int .i64 0, .int .i64 0, .int .i64 0, .int .i64 0, .int .u8 0, .bool false], .int .i64 4]) (by simp [results, Tryz.results57, go_sem, z0, z1, z2, z3, z4, z5, z6, z7, z8, hz2]) rfl ⟨rfl, ?_⟩
    rw [← set9_def]
    exact belowAl (set9_below (N := w.heap.size + 1) (belowUp (belowUp (belowAl (belowAl (Below.refl _ _) _) _) hb) hb2) (by omega) _ _ _ _ _ _ _ _ _) _
  · simp only [hx] at hi1
    clear hx hoth hi2
    go_enter Tryz.func57, Tryz.ntmps57
    go_wp2_with fail
    refine (hc _).mono ?_
    rintro e w1 ⟨rfl, hb⟩
    have hz := lt_of_back2 hb
    have hA : Hid (w1.heap[w.heap.size]? = some (.cells #[.int .u8 k, .string s, .int .i64 u, .int .i64 v, .int .i64 r, .int .i64 t, .int .i64 ow, .int .u8 ph, .bool g] 84 (0, 0))) := (hb.block w.heap.size (by simp; omega)).trans (alloc_last' w _ _)
    obtain ⟨⟨y0, y1, y2, y3, y4, y5, y6, y7, y8⟩, yf⟩ := nine hA.out
    have hB : Hid (w1.heap[w.heap.size + 1]? = some (.cells #[.int .u8 0, .string ⟨#[]⟩, .int .i64 0, .int .i64 0, .int .i64 0, .int .i64 0, .int .i64 0, .int .u8 0, .bool false] 84 (0, 0))) := (hb.block (w.heap.size + 1) (by simp)).trans (alloc_last2 w _ _)
    go_wp2_with fail
    refine (HC.out _ (H.out.below (belowUp (belowAl (belowAl (Below.refl _ _) _) _) hb))).mono ?_
    rintro e w2 ⟨rfl, hb2⟩
    have hz2 : w.heap.size + 1 < w2.heap.size := Nat.lt_of_lt_of_le hz hb2.size
    have hz3 : w.heap.size < w2.heap.size := by omega
    clear y0 y1 y2 y3 y4 y5 y6 y7 y8 yf
    obtain ⟨⟨y0, y1, y2, y3, y4, y5, y6, y7, y8⟩, yf⟩ := nine ((hb2.block w.heap.size (by omega)).trans hA.out)
    obtain ⟨⟨z0, z1, z2, z3, z4, z5, z6, z7, z8⟩, zf⟩ := nine ((hb2.block (w.heap.size + 1) hz).trans hB.out)
    go_wp2_with fail
    refine (hi1 _).mono ?_
    rintro e w' ⟨rfl, rfl⟩
    go_wp2
    refine bodyPost_ret (v := .tuple #[.agg #[.int .u8 0, .string ⟨#[]⟩, .int .i64 0, .int .i64 0, .int .i64 0, .int .i64 0, .int .i64 0, .int .u8 0, .bool false], .int .i64 4]) (by simp [results, Tryz.results57, go_sem, z0, z1, z2, z3, z4, z5, z6, z7, z8, hz2]) rfl ⟨rfl, ?_⟩
    rw [← set9_def]
    exact belowAl (set9_below (N := w.heap.size + 1) (belowUp (belowUp (belowAl (belowAl (Below.refl _ _) _) _) hb) hb2) (by omega) _ _ _ _ _ _ _ _ _) _

end Go.Proofs.YtdgfjneapialdaaGreatDoor.S
