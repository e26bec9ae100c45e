import Derived.Test.YtdgfjneapialdaaGreatDoorSm
namespace Go.Proofs.YtdgfjneapialdaaGreatDoor.S
open Go Go.RowKit Go.Maps

theorem back9 {w w1 : World} {o : Obj} (hb : Below (w.alloc o).heap.size (w.alloc o) w1) : Below w.heap.size w w1 :=
  ((Below.refl _ _).alloc (Nat.le_refl _) _).trans (hb.mono (by simp))
theorem lt_of_back {w w1 : World} {o : Obj} (hb : Below (w.alloc o).heap.size (w.alloc o) w1) : w.heap.size < w1.heap.size := by
  have := hb.size; simp at this; omega
theorem lt_of_back2 {w w1 : World} {o o' : Obj} (hb : Below ((w.alloc o).alloc o').heap.size ((w.alloc o).alloc o') w1) : w.heap.size + 1 < w1.heap.size := by
  have := hb.size; simp at this; omega
theorem belowUp {w W w2 : World} (h : Below w.heap.size w W) (k : Below W.heap.size W w2) : Below w.heap.size w w2 := h.trans (k.mono h.size)
theorem belowAl {w W : World} (h : Below w.heap.size w W) (o : Obj) : Below w.heap.size w (W.alloc o) := h.alloc h.size o
theorem belowKept {sb mb : Nat} {w W : World} (h : Below w.heap.size w W) : Kept sb mb w W := (Kept.refl sb mb w).below h

theorem heap_alloc2 (w : World) (o o' : Obj) (b : Nat) (h : b < w.heap.size) : ((w.alloc o).alloc o').heap[b]? = w.heap[b]? :=
  (Below.heap_alloc _ _ _ (by simp; omega)).trans (Below.heap_alloc _ _ _ h)

set_option maxHeartbeats 1000000 in
/-- Mark, refused. -/
theorem mark_refused (w : World) (sb : Nat) (s : ByteArray) (er : Int) (her : (er != 0) = true)
    (hc : ∀ o, Calls Tryz.prog 121 #[.pointer (some ⟨sb, 0, none⟩), .int .u8 1, .string s] (w.alloc o) fun e w' => e = .returned (.tuple #[.agg #[.int .u8 0, .string ⟨#[]⟩, .int .i64 0, .int .i64 0, .int .i64 0, .int .i64 0, .int .i64 0, .int .u8 0, .bool false], .int .i64 er]) ∧ Below (w.alloc o).heap.size (w.alloc o) w') :
    Calls Tryz.prog 59 #[.pointer (some ⟨sb, 0, none⟩), .string s] w fun e w' => e = .returned (.tuple #[.agg #[.int .u8 0, .string ⟨#[]⟩, .int .i64 0, .int .i64 0, .int .i64 0, .int .i64 0, .int .i64 0, .int .u8 0, .bool false], .int .i64 er]) ∧ Below w.heap.size w w' := by
  go_enter Tryz.func59, Tryz.ntmps59
  go_wp2_with fail
  refine (hc _).mono ?_
  rintro e w1 ⟨rfl, hb⟩
  have hz := lt_of_back hb
  obtain ⟨hcell, hfz⟩ := bcell hb
  go_wp2
  refine bodyPost_ret (v := .tuple #[.agg #[.int .u8 0, .string ⟨#[]⟩, .int .i64 0, .int .i64 0, .int .i64 0, .int .i64 0, .int .i64 0, .int .u8 0, .bool false], .int .i64 er]) (by simp [results, Tryz.results59, go_sem, hcell, hz]) rfl ⟨rfl, ?_⟩
  rw [← set9_def]
  exact belowAl (set9_below (back9 hb) (Nat.le_refl _) _ _ _ _ _ _ _ _ _) _

set_option maxHeartbeats 1000000 in
/-- Mark, of a pod that is there. -/
theorem mark_ok (w : World) (sb mb : Nat) (lim ver cre : Int) (log : List Value) (n : Nat) (D : DataW Unit) (s : ByteArray) (a0 : Int) (a1 : ByteArray) (a2 a3 a4 a5 a6 a7 : Int) (a8 : Bool) (q0 : Int) (q1 : ByteArray) (q2 q3 q4 q5 q6 q7 : Int) (q8 : Bool) (ver' : Int) (log' : List Value) (n' : Nat) (D' : DataW Unit) (h : IsStore w sb mb lim ver cre log n D) (hv : ver ≠ 600) (hs : s.size ≤ maxLen) (ha : At D 1 s ⟨a0, a1, a2, a3, a4, a5, a6, a7, a8⟩)
    (ht : ∀ W, IsStore W sb mb lim ver cre log n D → Calls Tryz.prog 123 #[.pointer (some ⟨sb, 0, none⟩), .agg #[.int .u8 a0, .string a1, .int .i64 a2, .int .i64 a3, .int .i64 a4, .int .i64 a5, .int .i64 a6, .int .u8 a7, .bool a8], .agg #[.int .u8 a0, .string a1, .int .i64 a2, .int .i64 a3, .int .i64 a4, .int .i64 a5, .int .i64 a6, .int .u8 a7, .bool true]] W fun e w' => e = .returned (.agg #[.int .u8 q0, .string q1, .int .i64 q2, .int .i64 q3, .int .i64 q4, .int .i64 q5, .int .i64 q6, .int .u8 q7, .bool q8]) ∧ IsStore w' sb mb lim ver' cre log' n' D' ∧ Kept sb mb W w') :
    Calls Tryz.prog 59 #[.pointer (some ⟨sb, 0, none⟩), .string s] w fun e w' => e = .returned (.tuple #[.agg #[.int .u8 q0, .string q1, .int .i64 q2, .int .i64 q3, .int .i64 q4, .int .i64 q5, .int .i64 q6, .int .u8 q7, .bool q8], .int .i64 0]) ∧ IsStore w' sb mb lim ver' cre log' n' D' ∧ Kept sb mb w w' := by
  have hsb := h.lt
  have hmb := h.mlt
  have hc := fun ob => forWriting_hit (w.alloc ob) sb mb lim ver cre log n D 1 s _ (h.alloc ob) hv (by omega) (by omega) hs ha
  simp only [Ob.arr] at hc
  clear hv ha
  have H : Hid (IsStore w sb mb lim ver cre log n D) := h
  have HT : Hid (∀ W, IsStore W sb mb lim ver cre log n D → Calls Tryz.prog 123 #[.pointer (some ⟨sb, 0, none⟩), .agg #[.int .u8 a0, .string a1, .int .i64 a2, .int .i64 a3, .int .i64 a4, .int .i64 a5, .int .i64 a6, .int .u8 a7, .bool a8], .agg #[.int .u8 a0, .string a1, .int .i64 a2, .int .i64 a3, .int .i64 a4, .int .i64 a5, .int .i64 a6, .int .u8 a7, .bool true]] W fun e w' => e = .returned (.agg #[.int .u8 q0, .string q1, .int .i64 q2, .int .i64 q3, .int .i64 q4, .int .i64 q5, .int .i64 q6, .int .u8 q7, .bool q8]) ∧ IsStore w' sb mb lim ver' cre log' n' D' ∧ Kept sb mb W w') := ht
  clear h ht
  go_enter Tryz.func59, Tryz.ntmps59
  go_wp2_with fail
  refine (hc _).mono ?_
  rintro e w1 ⟨rfl, hb⟩
  have hz := lt_of_back hb
  obtain ⟨hcell, hfz⟩ := bcell hb
  have hS1 : Hid (IsStore w1 sb mb lim ver cre log n D) := (H.out.below (back9 hb))
  go_wp2_with fail
  refine (HT.out _ ((hS1.out.alloc _).alloc _)).mono ?_
  rintro e w2 ⟨rfl, hS2, hK2⟩
  have hb0 : w1.heap[w.heap.size]? = some (.cells #[.int .u8 0, .string ⟨#[]⟩, .int .i64 0, .int .i64 0, .int .i64 0, .int .i64 0, .int .i64 0, .int .u8 0, .bool false] 84 (0, 0)) := (hb.block _ (by simp)).trans (alloc_last _ _)
  obtain ⟨⟨z0, z1, z2, z3, z4, z5, z6, z7, z8⟩, zf⟩ := nine ((hK2.block w.heap.size (by simp; omega) (by omega) (by omega)).trans ((heap_alloc2 _ _ _ _ hz).trans hb0))
  clear hcell hfz hb0
  go_wp2
  refine bodyPost_ret (v := .tuple #[.agg #[.int .u8 q0, .string q1, .int .i64 q2, .int .i64 q3, .int .i64 q4, .int .i64 q5, .int .i64 q6, .int .u8 q7, .bool q8], .int .i64 0]) (by simp [results, Tryz.results59, go_sem, z0, z1, z2, z3, z4, z5, z6, z7, z8]) rfl ⟨rfl, ?_, ?_⟩
  · rw [← set9_def]
    exact set9_store hS2 (by omega) (by omega) _ _ _ _ _ _ _ _ _
  · rw [← set9_def]
    exact set9_kept (((belowKept (back9 hb)).alloc _ |>.alloc _).trans hK2) (Nat.le_refl _) _ _ _ _ _ _ _ _ _

end Go.Proofs.YtdgfjneapialdaaGreatDoor.S
