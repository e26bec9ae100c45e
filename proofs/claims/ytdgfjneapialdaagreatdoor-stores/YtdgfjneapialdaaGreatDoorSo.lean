import Derived.Test.YtdgfjneapialdaaGreatDoorSn
namespace Go.Proofs.YtdgfjneapialdaaGreatDoor.S
open Go Go.RowKit Go.Maps

set_option maxHeartbeats 1000000 in
/-- Remove, refused. -/
theorem remove_refused (w : World) (sb : Nat) (k : Int) (s : ByteArray) (ve : Int) (er : Int) (her : (er != 0) = true)
    (hc : ∀ o, Calls Tryz.prog 121 #[.pointer (some ⟨sb, 0, none⟩), .int .u8 k, .string s] (w.alloc o) fun e w' => e = .returned (.tuple #[.agg #[.int .u8 0, .string ⟨#[]⟩, .int .i64 0, .int .i64 0, .int .i64 0, .int .i64 0, .int .i64 0, .int .u8 0, .bool false], .int .i64 er]) ∧ Below (w.alloc o).heap.size (w.alloc o) w') :
    Calls Tryz.prog 61 #[.pointer (some ⟨sb, 0, none⟩), .int .u8 k, .string s, .int .i64 ve] w fun e w' => e = .returned (.tuple #[.agg #[.int .u8 0, .string ⟨#[]⟩, .int .i64 0, .int .i64 0, .int .i64 0, .int .i64 0, .int .i64 0, .int .u8 0, .bool false], .int .i64 er]) ∧ Below w.heap.size w w' := by
  go_enter Tryz.func61, Tryz.ntmps61
  go_wp2_with fail
  refine (hc _).mono ?_
  rintro e w1 ⟨rfl, hb⟩
  have hz := lt_of_back hb
  obtain ⟨hcell, hfz⟩ := bcell hb
  go_wp2
  refine bodyPost_ret (v := .tuple #[.agg #[.int .u8 0, .string ⟨#[]⟩, .int .i64 0, .int .i64 0, .int .i64 0, .int .i64 0, .int .i64 0, .int .u8 0, .bool false], .int .i64 er]) (by simp [results, Tryz.results61, go_sem, hcell, hz]) rfl ⟨rfl, ?_⟩
  rw [← set9_def]
  exact belowAl (set9_below (back9 hb) (Nat.le_refl _) _ _ _ _ _ _ _ _ _) _

set_option maxHeartbeats 1000000 in
/-- Remove, another version. -/
theorem remove_conflict (w : World) (sb mb : Nat) (lim ver cre : Int) (log : List Value) (n : Nat) (D : DataW Unit) (k : Int) (s : ByteArray) (ve : Int) (a0 : Int) (a1 : ByteArray) (a2 a3 a4 a5 a6 a7 : Int) (a8 : Bool) (h : IsStore w sb mb lim ver cre log n D) (hv : ver ≠ 600) (h0 : 0 ≤ k) (h1 : k ≤ 255) (hs : s.size ≤ maxLen) (ha : At D k s ⟨a0, a1, a2, a3, a4, a5, a6, a7, a8⟩) (hve : isOtherB ve a3 = true) :
    Calls Tryz.prog 61 #[.pointer (some ⟨sb, 0, none⟩), .int .u8 k, .string s, .int .i64 ve] w fun e w' => e = .returned (.tuple #[.agg #[.int .u8 0, .string ⟨#[]⟩, .int .i64 0, .int .i64 0, .int .i64 0, .int .i64 0, .int .i64 0, .int .u8 0, .bool false], .int .i64 4]) ∧ Below w.heap.size w w' := by
  have hc := fun ob => forWriting_hit (w.alloc ob) sb mb lim ver cre log n D k s _ (h.alloc ob) hv h0 h1 hs ha
  simp only [Ob.arr] at hc
  have hi := fun W => isOther_any ve a3 W
  simp only [hve] at hi
  clear hv ha h
  go_enter Tryz.func61, Tryz.ntmps61
  go_wp2_with fail
  refine (hc _).mono ?_
  rintro e w1 ⟨rfl, hb⟩
  have hz := lt_of_back hb
  obtain ⟨hcell, hfz⟩ := bcell hb
  go_wp2_with (go_at_call 122; refine (hi _).mono ?_; rintro e w' ⟨rfl, rfl⟩)
  refine bodyPost_ret (v := .tuple #[.agg #[.int .u8 0, .string ⟨#[]⟩, .int .i64 0, .int .i64 0, .int .i64 0, .int .i64 0, .int .i64 0, .int .u8 0, .bool false], .int .i64 4]) (by simp [results, Tryz.results61, go_sem, hcell, hz]) rfl ⟨rfl, ?_⟩
  rw [← set9_def]
  exact belowAl (set9_below (back9 hb) (Nat.le_refl _) _ _ _ _ _ _ _ _ _) _

set_option maxRecDepth 100000 in
set_option maxHeartbeats 400000 in
/-- Remove. -/
theorem remove_ok (w : World) (sb mb : Nat) (lim ver cre : Int) (log : List Value) (n : Nat) (D : DataW Unit) (k : Int) (s : ByteArray) (ve : Int) (a0 : Int) (a1 : ByteArray) (a2 a3 a4 a5 a6 a7 : Int) (a8 : Bool) (h : IsStore w sb mb lim ver cre log n D) (hv0 : 0 ≤ ver) (hv : ver < 600) (h0 : 0 ≤ k) (h1 : k ≤ 255) (hs : s.size ≤ maxLen) (ha : At D k s ⟨a0, a1, a2, a3, a4, a5, a6, a7, a8⟩) (hve : isOtherB ve a3 = false) :
    Calls Tryz.prog 61 #[.pointer (some ⟨sb, 0, none⟩), .int .u8 k, .string s, .int .i64 ve] w fun e w' => e = .returned (.tuple #[.agg #[.int .u8 a0, .string a1, .int .i64 a2, .int .i64 (ver + 1), .int .i64 a4, .int .i64 a5, .int .i64 a6, .int .u8 a7, .bool a8], .int .i64 0]) ∧
      IsStore w' sb mb lim (ver + 1) cre (logPut log (((ver + 1) % 16).toNat * 10) (evCells 2 a0 a1 a2 (ver + 1) a4 a5 a6 a7 a8)) n (D.del (klit k s)) ∧ Kept sb mb w w' := by
  have hsb := h.lt
  have hmb := h.mlt
  have hc := fun ob => forWriting_hit (w.alloc ob) sb mb lim ver cre log n D k s _ (h.alloc ob) (by omega) h0 h1 hs ha
  simp only [Ob.arr] at hc
  have hi := fun W => isOther_any ve a3 W
  simp only [hve] at hi
  clear ha
  have H : Hid (IsStore w sb mb lim ver cre log n D) := h
  clear h
  go_enter Tryz.func61, Tryz.ntmps61
  go_wp2_with fail
  refine (hc _).mono ?_
  rintro e w1 ⟨rfl, hb⟩
  have hz := lt_of_back hb
  obtain ⟨hcell, hfz⟩ := bcell hb
  have hS1 : Hid (IsStore w1 sb mb lim ver cre log n D) := (H.out.below (back9 hb))
  have c3 := H.out.c3
  obtain ⟨W2, hrun, hown, hturn⟩ := (hS1.out.alloc (.cells #[.int .u8 a0, .string a1, .int .i64 a2, .int .i64 a3, .int .i64 a4, .int .i64 a5, .int .i64 a6, .int .u8 a7, .bool a8] 84)).map.drop law58 Tryz.underlying105 (key58 k s h0 h1 hs) 0
  simp only [keyV] at hrun
  have hblk : ∀ b, b < (w1.alloc (.cells #[.int .u8 a0, .string a1, .int .i64 a2, .int .i64 a3, .int .i64 a4, .int .i64 a5, .int .i64 a6, .int .u8 a7, .bool a8] 84)).heap.size → b ≠ mb → W2.heap[b]? = (w1.alloc (.cells #[.int .u8 a0, .string a1, .int .i64 a2, .int .i64 a3, .int .i64 a4, .int .i64 a5, .int .i64 a6, .int .u8 a7, .bool a8] 84)).heap[b]? := fun b hb hne => hturn.grown.block b hb (fun e => hne (Option.some.inj e))
  have hmb1 := hS1.out.mlt
  have hsb1 := hS1.out.lt
  have hA : W2.heap[w1.heap.size]? = some (.cells #[.int .u8 a0, .string a1, .int .i64 a2, .int .i64 a3, .int .i64 a4, .int .i64 a5, .int .i64 a6, .int .u8 a7, .bool a8] 84 (0, 0)) := (hblk _ (by simp) (by omega)).trans (alloc_last _ _)
  have hB : W2.heap[w.heap.size]? = some (.cells #[.int .u8 0, .string ⟨#[]⟩, .int .i64 0, .int .i64 0, .int .i64 0, .int .i64 0, .int .i64 0, .int .u8 0, .bool false] 84 (0, 0)) := (hblk _ (by simp; omega) (by omega)).trans ((Below.heap_alloc _ _ _ hz).trans ((hb.block _ (by simp)).trans (alloc_last _ _)))
  have hS2 : IsStore W2 sb mb lim ver cre log n (D.del (klit k s)) := ⟨(hblk _ (by simp; omega) (fun e => hS1.out.ne e.symm)).trans (hS1.out.alloc _).blk, hS1.out.len, hown⟩
  have hK2 : Hid (Kept sb mb w W2) := ((belowKept (back9 hb)).alloc _).turned hturn
  have hc30 := leaveEvent_any a0 a1 a2 a3 a4 a5 a6 a7 a8 W2 sb mb lim ver cre log n (D.del (klit k s)) 2 hS2 hv0 hv
  have hB' : Hid (W2.heap[w.heap.size]? = some (.cells #[.int .u8 0, .string ⟨#[]⟩, .int .i64 0, .int .i64 0, .int .i64 0, .int .i64 0, .int .i64 0, .int .u8 0, .bool false] 84 (0, 0))) := hB
  obtain ⟨⟨p0, p1, p2, p3, p4, p5, p6, p7, p8⟩, _⟩ := nine hA
  clear hblk hA hB hown hturn hS2
  go_wp2_with fail
  refine (hi _).mono ?_
  rintro e w' ⟨rfl, rfl⟩
  go_wp2_with fail
  refine hc30.mono ?_
  rintro e w3 ⟨rfl, hS3, hK3⟩
  have hz2 := hK2.out.size
  obtain ⟨⟨z0, z1, z2, z3, z4, z5, z6, z7, z8⟩, zf⟩ := nine ((hK3.block w.heap.size (Array.getElem?_eq_some_iff.1 hB'.out).1 (by omega) (by omega)).trans hB'.out)
  have HS3 : Hid (IsStore w3 sb mb lim (ver + 1) cre (logPut log (((ver + 1) % 16).toNat * 10) (evCells 2 a0 a1 a2 (ver + 1) a4 a5 a6 a7 a8)) n (D.del (klit k s))) := hS3
  have HK3 : Hid (Kept sb mb W2 w3) := hK3
  clear hcell hfz p0 p1 p2 p3 p4 p5 p6 p7 p8 c3 hrun hS3 hK3 hc30 hc
  go_wp2
  refine bodyPost_ret (v := .tuple #[.agg #[.int .u8 a0, .string a1, .int .i64 a2, .int .i64 (ver + 1), .int .i64 a4, .int .i64 a5, .int .i64 a6, .int .u8 a7, .bool a8], .int .i64 0]) (by simp [results, Tryz.results61, go_sem, z0, z1, z2, z3, z4, z5, z6, z7, z8]) rfl ⟨rfl, ?_, ?_⟩
  · rw [← set9_def]
    exact set9_store (N := w.heap.size) HS3.out (by omega) (by omega) _ _ _ _ _ _ _ _ _
  · rw [← set9_def]
    exact set9_kept (N := w.heap.size) (hK2.out.trans HK3.out) (Nat.le_refl _) _ _ _ _ _ _ _ _ _

end Go.Proofs.YtdgfjneapialdaaGreatDoor.S
