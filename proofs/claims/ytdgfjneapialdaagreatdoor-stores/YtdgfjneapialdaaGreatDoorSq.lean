import Derived.Test.YtdgfjneapialdaaGreatDoorSp
namespace Go.Proofs.YtdgfjneapialdaaGreatDoor.S
open Go Go.RowKit Go.Maps

set_option maxHeartbeats 1000000 in
theorem update_set (s : ByteArray) (u v r t ow ph : Int) (g : Bool) (w : World) (sb mb : Nat) (lim ver cre : Int) (log : List Value) (n : Nat) (D : DataW Unit) (a0 : Int) (a1 : ByteArray) (a2 a3 a4 a5 a6 a7 : Int) (a8 : Bool) (q0 : Int) (q1 : ByteArray) (q2 q3 q4 q5 q6 q7 : Int) (q8 : Bool) (ver' : Int) (log' : List Value) (n' : Nat) (D' : DataW Unit) (hr : rightUpB 0 r t ph = true) (h : IsStore w sb mb lim ver cre log n D) (hv : ver ≠ 600) (hs : s.size ≤ maxLen) (ha : At D 0 s ⟨a0, a1, a2, a3, a4, a5, a6, a7, a8⟩) (ho1 : isOtherB u a2 = false) (ho2 : isOtherB v a3 = false)
    (ht : ∀ W, IsStore W sb mb lim ver cre log n D → Calls Tryz.prog 123 #[.pointer (some ⟨sb, 0, none⟩), .agg #[.int .u8 a0, .string a1, .int .i64 a2, .int .i64 a3, .int .i64 a4, .int .i64 a5, .int .i64 a6, .int .u8 a7, .bool a8], .agg #[.int .u8 a0, .string a1, .int .i64 a2, .int .i64 a3, .int .i64 r, .int .i64 t, .int .i64 a6, .int .u8 a7, .bool a8]] W fun e w' => e = .returned (.agg #[.int .u8 q0, .string q1, .int .i64 q2, .int .i64 q3, .int .i64 q4, .int .i64 q5, .int .i64 q6, .int .u8 q7, .bool q8]) ∧ IsStore w' sb mb lim ver' cre log' n' D' ∧ Kept sb mb W w') :
    Calls Tryz.prog 57 #[.pointer (some ⟨sb, 0, none⟩), .agg #[.int .u8 0, .string s, .int .i64 u, .int .i64 v, .int .i64 r, .int .i64 t, .int .i64 ow, .int .u8 ph, .bool g]] w fun e w' => e = .returned (.tuple #[.agg #[.int .u8 q0, .string q1, .int .i64 q2, .int .i64 q3, .int .i64 q4, .int .i64 q5, .int .i64 q6, .int .u8 q7, .bool q8], .int .i64 0]) ∧ IsStore w' sb mb lim ver' cre log' n' D' ∧ Kept sb mb w w' := by
  have hsb := h.lt
  have hmb := h.mlt
  have hc := fun W => rightToUpdate_any 0 s u v r t ow ph g W
  simp only [hr] at hc
  have HC : Hid (∀ W, IsStore W sb mb lim ver cre log n D → Calls Tryz.prog 121 #[.pointer (some ⟨sb, 0, none⟩), .int .u8 0, .string s] W fun e w' => e = .returned (.tuple #[.agg #[.int .u8 a0, .string a1, .int .i64 a2, .int .i64 a3, .int .i64 a4, .int .i64 a5, .int .i64 a6, .int .u8 a7, .bool a8], .int .i64 0]) ∧ Below W.heap.size W w') := fun W hW => forWriting_hit W sb mb lim ver cre log n D 0 s _ hW hv (by omega) (by omega) hs ha
  have HT : Hid (∀ W, IsStore W sb mb lim ver cre log n D → Calls Tryz.prog 123 #[.pointer (some ⟨sb, 0, none⟩), .agg #[.int .u8 a0, .string a1, .int .i64 a2, .int .i64 a3, .int .i64 a4, .int .i64 a5, .int .i64 a6, .int .u8 a7, .bool a8], .agg #[.int .u8 a0, .string a1, .int .i64 a2, .int .i64 a3, .int .i64 r, .int .i64 t, .int .i64 a6, .int .u8 a7, .bool a8]] W fun e w' => e = .returned (.agg #[.int .u8 q0, .string q1, .int .i64 q2, .int .i64 q3, .int .i64 q4, .int .i64 q5, .int .i64 q6, .int .u8 q7, .bool q8]) ∧ IsStore w' sb mb lim ver' cre log' n' D' ∧ Kept sb mb W w') := ht
  have H : Hid (IsStore w sb mb lim ver cre log n D) := h
  clear h ha ht hr
  have hi1 := fun W => isOther_any u a2 W
  have hi2 := fun W => isOther_any v a3 W
  simp only [ho1] at hi1
  simp only [ho2] at hi2
  clear ho1 ho2
  go_enter Tryz.func57, Tryz.ntmps57
  go_wp2_with fail
  refine (hc _).mono ?_
  rintro e w1 ⟨rfl, hb⟩
  have hz := lt_of_back2 hb
  have hA : Hid (w1.heap[w.heap.size]? = some (.cells #[.int .u8 0, .string s, .int .i64 u, .int .i64 v, .int .i64 r, .int .i64 t, .int .i64 ow, .int .u8 ph, .bool g] 84 (0, 0))) := (hb.block w.heap.size (by simp; omega)).trans (alloc_last' w _ _)
  obtain ⟨⟨y0, y1, y2, y3, y4, y5, y6, y7, y8⟩, yf⟩ := nine hA.out
  have hB : Hid (w1.heap[w.heap.size + 1]? = some (.cells #[.int .u8 0, .string ⟨#[]⟩, .int .i64 0, .int .i64 0, .int .i64 0, .int .i64 0, .int .i64 0, .int .u8 0, .bool false] 84 (0, 0))) := (hb.block (w.heap.size + 1) (by simp)).trans (alloc_last2 w _ _)
  have hb1 : Below w.heap.size w w1 := belowUp (belowAl (belowAl (Below.refl _ _) _) _) hb
  go_wp2_with fail
  refine (HC.out _ (H.out.below hb1)).mono ?_
  rintro e w2 ⟨rfl, hb2⟩
  have hz2 : w.heap.size + 1 < w2.heap.size := Nat.lt_of_lt_of_le hz hb2.size
  have hz3 : w.heap.size < w2.heap.size := by omega
  have hz4 : w.heap.size < w2.heap.size + 1 := by omega
  have hz5 : w.heap.size + 1 < w2.heap.size + 1 := by omega
  clear y0 y1 y2 y3 y4 y5 y6 y7 y8 yf
  obtain ⟨⟨y0, y1, y2, y3, y4, y5, y6, y7, y8⟩, yf⟩ := nine ((hb2.block w.heap.size (by omega)).trans hA.out)
  have hB2 : Hid (w2.heap[w.heap.size + 1]? = some (.cells #[.int .u8 0, .string ⟨#[]⟩, .int .i64 0, .int .i64 0, .int .i64 0, .int .i64 0, .int .i64 0, .int .u8 0, .bool false] 84 (0, 0))) := (hb2.block (w.heap.size + 1) hz).trans hB.out
  have hS2 : Hid (IsStore w2 sb mb lim ver cre log n D) := (H.out.below hb1).below hb2
  go_wp2_with fail
  refine (hi1 _).mono ?_
  rintro e w' ⟨rfl, rfl⟩
  go_wp2_with fail
  refine (hi2 _).mono ?_
  rintro e w' ⟨rfl, rfl⟩
  go_wp2_with fail
  go_region
  go_wp2_with fail
  refine (HT.out _ (((hS2.out.alloc _).alloc _).drew)).mono ?_
  rintro e w3 ⟨rfl, hS3, hK3⟩
  have hK3' : Kept sb mb (((w2.alloc (.cells #[.int .u8 a0, .string a1, .int .i64 a2, .int .i64 a3, .int .i64 a4, .int .i64 a5, .int .i64 a6, .int .u8 a7, .bool a8] 84)).alloc (.cells #[.int .u8 a0, .string a1, .int .i64 a2, .int .i64 a3, .int .i64 r, .int .i64 t, .int .i64 a6, .int .u8 a7, .bool a8] 84)).drew) w3 := hK3
  obtain ⟨⟨z0, z1, z2, z3, z4, z5, z6, z7, z8⟩, zf⟩ := nine ((hK3'.block (w.heap.size + 1) (by simp; omega) (by omega) (by omega)).trans ((heap_alloc2 _ _ _ _ hz2).trans hB2.out))
  have HS3 : Hid (IsStore w3 sb mb lim ver' cre log' n' D') := hS3
  have HK3 : Hid (Kept sb mb w w3) := ((((belowKept (belowUp hb1 hb2)).alloc _ |>.alloc _).drew).trans hK3')
  clear y0 y1 y2 y3 y4 y5 y6 y7 y8 yf hS3 hK3 hK3'
  go_wp2
  refine bodyPost_ret (v := .tuple #[.agg #[.int .u8 q0, .string q1, .int .i64 q2, .int .i64 q3, .int .i64 q4, .int .i64 q5, .int .i64 q6, .int .u8 q7, .bool q8], .int .i64 0]) (by simp [results, Tryz.results57, go_sem, z0, z1, z2, z3, z4, z5, z6, z7, z8]) rfl ⟨rfl, ?_, ?_⟩
  · rw [← set9_def]
    exact set9_store (N := w.heap.size + 1) HS3.out (by omega) (by omega) _ _ _ _ _ _ _ _ _
  · rw [← set9_def]
    exact set9_kept (N := w.heap.size + 1) HK3.out (by omega) _ _ _ _ _ _ _ _ _

set_option maxHeartbeats 1000000 in
theorem update_pod (s : ByteArray) (u v r t ow ph : Int) (g : Bool) (w : World) (sb mb : Nat) (lim ver cre : Int) (log : List Value) (n : Nat) (D : DataW Unit) (a0 : Int) (a1 : ByteArray) (a2 a3 a4 a5 a6 a7 : Int) (a8 : Bool) (q0 : Int) (q1 : ByteArray) (q2 q3 q4 q5 q6 q7 : Int) (q8 : Bool) (ver' : Int) (log' : List Value) (n' : Nat) (D' : DataW Unit) (hr : rightUpB 1 r t ph = true) (h : IsStore w sb mb lim ver cre log n D) (hv : ver ≠ 600) (hs : s.size ≤ maxLen) (ha : At D 1 s ⟨a0, a1, a2, a3, a4, a5, a6, a7, a8⟩) (ho1 : isOtherB u a2 = false) (ho2 : isOtherB v a3 = false)
    (ht : ∀ W, IsStore W sb mb lim ver cre log n D → Calls Tryz.prog 123 #[.pointer (some ⟨sb, 0, none⟩), .agg #[.int .u8 a0, .string a1, .int .i64 a2, .int .i64 a3, .int .i64 a4, .int .i64 a5, .int .i64 a6, .int .u8 a7, .bool a8], .agg #[.int .u8 a0, .string a1, .int .i64 a2, .int .i64 a3, .int .i64 a4, .int .i64 a5, .int .i64 a6, .int .u8 ph, .bool a8]] W fun e w' => e = .returned (.agg #[.int .u8 q0, .string q1, .int .i64 q2, .int .i64 q3, .int .i64 q4, .int .i64 q5, .int .i64 q6, .int .u8 q7, .bool q8]) ∧ IsStore w' sb mb lim ver' cre log' n' D' ∧ Kept sb mb W w') :
    Calls Tryz.prog 57 #[.pointer (some ⟨sb, 0, none⟩), .agg #[.int .u8 1, .string s, .int .i64 u, .int .i64 v, .int .i64 r, .int .i64 t, .int .i64 ow, .int .u8 ph, .bool g]] w fun e w' => e = .returned (.tuple #[.agg #[.int .u8 q0, .string q1, .int .i64 q2, .int .i64 q3, .int .i64 q4, .int .i64 q5, .int .i64 q6, .int .u8 q7, .bool q8], .int .i64 0]) ∧ IsStore w' sb mb lim ver' cre log' n' D' ∧ Kept sb mb w w' := by
  have hsb := h.lt
  have hmb := h.mlt
  have hc := fun W => rightToUpdate_any 1 s u v r t ow ph g W
  simp only [hr] at hc
  have HC : Hid (∀ W, IsStore W sb mb lim ver cre log n D → Calls Tryz.prog 121 #[.pointer (some ⟨sb, 0, none⟩), .int .u8 1, .string s] W fun e w' => e = .returned (.tuple #[.agg #[.int .u8 a0, .string a1, .int .i64 a2, .int .i64 a3, .int .i64 a4, .int .i64 a5, .int .i64 a6, .int .u8 a7, .bool a8], .int .i64 0]) ∧ Below W.heap.size W w') := fun W hW => forWriting_hit W sb mb lim ver cre log n D 1 s _ hW hv (by omega) (by omega) hs ha
  have HT : Hid (∀ W, IsStore W sb mb lim ver cre log n D → Calls Tryz.prog 123 #[.pointer (some ⟨sb, 0, none⟩), .agg #[.int .u8 a0, .string a1, .int .i64 a2, .int .i64 a3, .int .i64 a4, .int .i64 a5, .int .i64 a6, .int .u8 a7, .bool a8], .agg #[.int .u8 a0, .string a1, .int .i64 a2, .int .i64 a3, .int .i64 a4, .int .i64 a5, .int .i64 a6, .int .u8 ph, .bool a8]] W fun e w' => e = .returned (.agg #[.int .u8 q0, .string q1, .int .i64 q2, .int .i64 q3, .int .i64 q4, .int .i64 q5, .int .i64 q6, .int .u8 q7, .bool q8]) ∧ IsStore w' sb mb lim ver' cre log' n' D' ∧ Kept sb mb W w') := ht
  have H : Hid (IsStore w sb mb lim ver cre log n D) := h
  clear h ha ht hr
  have hi1 := fun W => isOther_any u a2 W
  have hi2 := fun W => isOther_any v a3 W
  simp only [ho1] at hi1
  simp only [ho2] at hi2
  clear ho1 ho2
  go_enter Tryz.func57, Tryz.ntmps57
  go_wp2_with fail
  refine (hc _).mono ?_
  rintro e w1 ⟨rfl, hb⟩
  have hz := lt_of_back2 hb
  have hA : Hid (w1.heap[w.heap.size]? = some (.cells #[.int .u8 1, .string s, .int .i64 u, .int .i64 v, .int .i64 r, .int .i64 t, .int .i64 ow, .int .u8 ph, .bool g] 84 (0, 0))) := (hb.block w.heap.size (by simp; omega)).trans (alloc_last' w _ _)
  obtain ⟨⟨y0, y1, y2, y3, y4, y5, y6, y7, y8⟩, yf⟩ := nine hA.out
  have hB : Hid (w1.heap[w.heap.size + 1]? = some (.cells #[.int .u8 0, .string ⟨#[]⟩, .int .i64 0, .int .i64 0, .int .i64 0, .int .i64 0, .int .i64 0, .int .u8 0, .bool false] 84 (0, 0))) := (hb.block (w.heap.size + 1) (by simp)).trans (alloc_last2 w _ _)
  have hb1 : Below w.heap.size w w1 := belowUp (belowAl (belowAl (Below.refl _ _) _) _) hb
  go_wp2_with fail
  refine (HC.out _ (H.out.below hb1)).mono ?_
  rintro e w2 ⟨rfl, hb2⟩
  have hz2 : w.heap.size + 1 < w2.heap.size := Nat.lt_of_lt_of_le hz hb2.size
  have hz3 : w.heap.size < w2.heap.size := by omega
  have hz4 : w.heap.size < w2.heap.size + 1 := by omega
  have hz5 : w.heap.size + 1 < w2.heap.size + 1 := by omega
  clear y0 y1 y2 y3 y4 y5 y6 y7 y8 yf
  obtain ⟨⟨y0, y1, y2, y3, y4, y5, y6, y7, y8⟩, yf⟩ := nine ((hb2.block w.heap.size (by omega)).trans hA.out)
  have hB2 : Hid (w2.heap[w.heap.size + 1]? = some (.cells #[.int .u8 0, .string ⟨#[]⟩, .int .i64 0, .int .i64 0, .int .i64 0, .int .i64 0, .int .i64 0, .int .u8 0, .bool false] 84 (0, 0))) := (hb2.block (w.heap.size + 1) hz).trans hB.out
  have hS2 : Hid (IsStore w2 sb mb lim ver cre log n D) := (H.out.below hb1).below hb2
  go_wp2_with fail
  refine (hi1 _).mono ?_
  rintro e w' ⟨rfl, rfl⟩
  go_wp2_with fail
  refine (hi2 _).mono ?_
  rintro e w' ⟨rfl, rfl⟩
  go_wp2_with fail
  refine (HT.out _ ((hS2.out.alloc _).alloc _)).mono ?_
  rintro e w3 ⟨rfl, hS3, hK3⟩
  have hK3' : Kept sb mb ((w2.alloc (.cells #[.int .u8 a0, .string a1, .int .i64 a2, .int .i64 a3, .int .i64 a4, .int .i64 a5, .int .i64 a6, .int .u8 a7, .bool a8] 84)).alloc (.cells #[.int .u8 a0, .string a1, .int .i64 a2, .int .i64 a3, .int .i64 a4, .int .i64 a5, .int .i64 a6, .int .u8 ph, .bool a8] 84)) w3 := hK3
  obtain ⟨⟨z0, z1, z2, z3, z4, z5, z6, z7, z8⟩, zf⟩ := nine ((hK3'.block (w.heap.size + 1) (by simp; omega) (by omega) (by omega)).trans ((heap_alloc2 _ _ _ _ hz2).trans hB2.out))
  have HS3 : Hid (IsStore w3 sb mb lim ver' cre log' n' D') := hS3
  have HK3 : Hid (Kept sb mb w w3) := ((((belowKept (belowUp hb1 hb2)).alloc _ |>.alloc _)).trans hK3')
  clear y0 y1 y2 y3 y4 y5 y6 y7 y8 yf hS3 hK3 hK3'
  go_wp2
  refine bodyPost_ret (v := .tuple #[.agg #[.int .u8 q0, .string q1, .int .i64 q2, .int .i64 q3, .int .i64 q4, .int .i64 q5, .int .i64 q6, .int .u8 q7, .bool q8], .int .i64 0]) (by simp [results, Tryz.results57, go_sem, z0, z1, z2, z3, z4, z5, z6, z7, z8]) rfl ⟨rfl, ?_, ?_⟩
  · rw [← set9_def]
    exact set9_store (N := w.heap.size + 1) HS3.out (by omega) (by omega) _ _ _ _ _ _ _ _ _
  · rw [← set9_def]
    exact set9_kept (N := w.heap.size + 1) HK3.out (by omega) _ _ _ _ _ _ _ _ _

end Go.Proofs.YtdgfjneapialdaaGreatDoor.S
