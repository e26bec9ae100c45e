import Derived.Test.YtdgfjneapialdaaGreatDoorSr
namespace Go.Proofs.YtdgfjneapialdaaGreatDoor.S
open Go Go.RowKit Go.Maps

set_option maxHeartbeats 400000 in
theorem create_refused (k : Int) (s : ByteArray) (u v r t ow ph : Int) (g : Bool) (w : World) (sb mb : Nat) (lim ver cre : Int) (log : List Value) (n : Nat) (D : DataW Unit) (er : Int) (her : (er != 0) = true) (h : IsStore w sb mb lim ver cre log n D)
    (hc5 : ∀ W, IsStore W sb mb lim ver cre log n D → Calls Tryz.prog 112 #[.pointer (some ⟨sb, 0, none⟩), .agg #[.int .u8 k, .string s, .int .i64 u, .int .i64 v, .int .i64 r, .int .i64 t, .int .i64 ow, .int .u8 ph, .bool g]] W fun e w' => e = .returned (.int .i64 er) ∧ Below W.heap.size W w') :
    Calls Tryz.prog 50 #[.pointer (some ⟨sb, 0, none⟩), .agg #[.int .u8 k, .string s, .int .i64 u, .int .i64 v, .int .i64 r, .int .i64 t, .int .i64 ow, .int .u8 ph, .bool g]] w fun e w' => e = .returned (.tuple #[.agg #[.int .u8 0, .string ⟨#[]⟩, .int .i64 0, .int .i64 0, .int .i64 0, .int .i64 0, .int .i64 0, .int .u8 0, .bool false], .int .i64 er]) ∧ Below w.heap.size w w' := by
  have hc := hc5 _ ((h.alloc (.cells #[.int .u8 k, .string s, .int .i64 u, .int .i64 v, .int .i64 r, .int .i64 t, .int .i64 ow, .int .u8 ph, .bool g] 84)).alloc (.cells #[.int .u8 0, .string ⟨#[]⟩, .int .i64 0, .int .i64 0, .int .i64 0, .int .i64 0, .int .i64 0, .int .u8 0, .bool false] 84))
  clear h hc5
  go_enter Tryz.func50, Tryz.ntmps50
  go_wp2_with fail
  refine hc.mono ?_
  rintro e w1 ⟨rfl, hb⟩
  obtain ⟨⟨z0, z1, z2, z3, z4, z5, z6, z7, z8⟩, zf⟩ := nine ((hb.block (w.heap.size + 1) (by simp)).trans (alloc_last2 w _ _))
  go_wp2
  refine bodyPost_ret (v := .tuple #[.agg #[.int .u8 0, .string ⟨#[]⟩, .int .i64 0, .int .i64 0, .int .i64 0, .int .i64 0, .int .i64 0, .int .u8 0, .bool false], .int .i64 er]) (by simp [results, Tryz.results50, go_sem, z0, z1, z2, z3, z4, z5, z6, z7, z8]) rfl ⟨rfl, ?_⟩
  rw [← set9_def]
  exact set9_below (N := w.heap.size + 1) (belowUp (belowAl (belowAl (Below.refl _ _) _) _) hb) (by omega) _ _ _ _ _ _ _ _ _

set_option maxRecDepth 100000 in
set_option maxHeartbeats 1000000 in
theorem create_ok (k : Int) (s : ByteArray) (u v r t ow ph : Int) (g : Bool) (w : World) (sb mb : Nat) (lim ver cre : Int) (log : List Value) (n : Nat) (D : DataW Unit) (nm : ByteArray) (h : IsStore w sb mb lim ver cre log n D) (hv : 0 ≤ ver) (hv2 : ver < 600) (hcr0 : 0 ≤ cre) (hcr : cre < 100000) (h0 : 0 ≤ k) (h1 : k ≤ 255) (hnm : nm.size ≤ maxLen) (hn : n < maxLen) (hs1 : 1 < sb) (hm1 : 1 < mb)
    (hc5 : ∀ W, IsStore W sb mb lim ver cre log n D → Calls Tryz.prog 112 #[.pointer (some ⟨sb, 0, none⟩), .agg #[.int .u8 k, .string s, .int .i64 u, .int .i64 v, .int .i64 r, .int .i64 t, .int .i64 ow, .int .u8 ph, .bool g]] W fun e w' => e = .returned (.int .i64 0) ∧ Below W.heap.size W w')
    (hc6 : ∀ W : World, W.heap[1]? = w.heap[1]? → 1 < W.heap.size → Calls Tryz.prog 113 #[.agg #[.int .u8 k, .string s, .int .i64 (cre + 1), .int .i64 v, .int .i64 r, .int .i64 t, .int .i64 ow, .int .u8 ph, .bool false]] W fun e w' => e = .returned (.string nm) ∧ Below W.heap.size W w') :
    Calls Tryz.prog 50 #[.pointer (some ⟨sb, 0, none⟩), .agg #[.int .u8 k, .string s, .int .i64 u, .int .i64 v, .int .i64 r, .int .i64 t, .int .i64 ow, .int .u8 ph, .bool g]] w fun e w' => e = .returned (.tuple #[.agg #[.int .u8 k, .string nm, .int .i64 (cre + 1), .int .i64 (ver + 1), .int .i64 r, .int .i64 t, .int .i64 ow, .int .u8 ph, .bool false], .int .i64 0]) ∧
      IsStore w' sb mb lim (ver + 1) (cre + 1) (logPut log (((ver + 1) % 16).toNat * 10) (evCells 0 k nm (cre + 1) (ver + 1) r t ow ph false)) (n + 1) (D.put (klit k nm) (Ob.mk k nm (cre + 1) (ver + 1) r t ow ph false).dat) ∧ Kept sb mb w w' := by
  have hsb := h.lt
  have hmb := h.mlt
  have hc := hc5 _ ((h.alloc (.cells #[.int .u8 k, .string s, .int .i64 u, .int .i64 v, .int .i64 r, .int .i64 t, .int .i64 ow, .int .u8 ph, .bool g] 84)).alloc (.cells #[.int .u8 0, .string ⟨#[]⟩, .int .i64 0, .int .i64 0, .int .i64 0, .int .i64 0, .int .i64 0, .int .u8 0, .bool false] 84))
  have H : Hid (IsStore w sb mb lim ver cre log n D) := h
  have HC6 : Hid (∀ W : World, W.heap[1]? = w.heap[1]? → 1 < W.heap.size → Calls Tryz.prog 113 #[.agg #[.int .u8 k, .string s, .int .i64 (cre + 1), .int .i64 v, .int .i64 r, .int .i64 t, .int .i64 ow, .int .u8 ph, .bool false]] W fun e w' => e = .returned (.string nm) ∧ Below W.heap.size W w') := hc6
  clear h hc5 hc6
  have hne1 : sb ≠ w.heap.size := by omega
  have hne2 : w.heap.size ≠ sb := by omega
  generalize hL : logPut log (((ver + 1) % 16).toNat * 10) (evCells 0 k nm (cre + 1) (ver + 1) r t ow ph false) = log2
  generalize hDD : D.put (klit k nm) (Ob.mk k nm (cre + 1) (ver + 1) r t ow ph false).dat = D2
  have HL : Hid (logPut log (((ver + 1) % 16).toNat * 10) (evCells 0 k nm (cre + 1) (ver + 1) r t ow ph false) = log2) := hL
  have HD : Hid (D.put (klit k nm) (Ob.mk k nm (cre + 1) (ver + 1) r t ow ph false).dat = D2) := hDD
  clear hL hDD
  go_enter Tryz.func50, Tryz.ntmps50
  go_wp2_with fail
  refine hc.mono ?_
  rintro e w1 ⟨rfl, hb⟩
  have hb1 : Below w.heap.size w w1 := belowUp (belowAl (belowAl (Below.refl _ _) _) _) hb
  have hS1 : Hid (IsStore w1 sb mb lim ver cre log n D) := H.out.below hb1
  have hA : Hid (w1.heap[w.heap.size]? = some (.cells #[.int .u8 k, .string s, .int .i64 u, .int .i64 v, .int .i64 r, .int .i64 t, .int .i64 ow, .int .u8 ph, .bool g] 84 (0, 0))) := (hb.block w.heap.size (by simp; omega)).trans (alloc_last' w _ _)
  have hB : Hid (w1.heap[w.heap.size + 1]? = some (.cells #[.int .u8 0, .string ⟨#[]⟩, .int .i64 0, .int .i64 0, .int .i64 0, .int .i64 0, .int .i64 0, .int .u8 0, .bool false] 84 (0, 0))) := (hb.block (w.heap.size + 1) (by simp)).trans (alloc_last2 w _ _)
  obtain ⟨⟨y0, y1, y2, y3, y4, y5, y6, y7, y8⟩, yf⟩ := nine hA.out
  have c2 := hS1.out.c2
  have f2 := hS1.out.fz
  go_wp2_with fail
  have hSW := ((hS1.out.set2 (cre + 1)).setNew (a := ⟨w.heap.size, 2, none⟩) (by simpa using hne1) (by simp; omega) (.int .i64 (cre + 1))).setNew (a := ⟨w.heap.size, 8, none⟩) (by simpa using hne1) (by simp; omega) (.bool false)
  have hKW := ((belowKept (sb := sb) (mb := mb) hb1).setStore 2 (.int .i64 (cre + 1))).setNew (a := ⟨w.heap.size, 2, none⟩) (Nat.le_refl _) (.int .i64 (cre + 1)) |>.setNew (a := ⟨w.heap.size, 8, none⟩) (Nat.le_refl _) (.bool false)
  have hAW := heap_setCell_same (sb := w.heap.size) (heap_setCell_same (sb := w.heap.size) ((heap_set_other w1 sb 2 (.int .i64 (cre + 1)) w.heap.size hne2).trans hA.out) 2 (.int .i64 (cre + 1))) 8 (.bool false)
  have hBW := (heap_set_other _ w.heap.size 8 (.bool false) (w.heap.size + 1) (by omega)).trans ((heap_set_other _ w.heap.size 2 (.int .i64 (cre + 1)) (w.heap.size + 1) (by omega)).trans ((heap_set_other w1 sb 2 (.int .i64 (cre + 1)) (w.heap.size + 1) (by omega)).trans hB.out))
  simp only [List.setIfInBounds_toArray, List.set_cons_succ, List.set_cons_zero] at hAW
  clear y0 y1 y2 y3 y4 y5 y6 y7 y8 yf c2 f2
  generalize ((w1.setCell ⟨sb, 2, none⟩ (.int .i64 (cre + 1))).setCell ⟨w.heap.size, 2, none⟩ (.int .i64 (cre + 1))).setCell ⟨w.heap.size, 8, none⟩ (.bool false) = W at hSW hKW hAW hBW ⊢
  have hW1 : W.heap[1]? = w.heap[1]? := hKW.block 1 (by omega) (by omega) (by omega)
  have hWs := hKW.size
  refine (HC6.out W hW1 (by omega)).mono ?_
  rintro e w2 ⟨rfl, hb2⟩
  have hA2 : Hid (w2.heap[w.heap.size]? = some (.cells #[.int .u8 k, .string s, .int .i64 (cre + 1), .int .i64 v, .int .i64 r, .int .i64 t, .int .i64 ow, .int .u8 ph, .bool false] 84 (0, 0))) := (hb2.block w.heap.size (Array.getElem?_eq_some_iff.1 hAW).1).trans hAW
  have hB2 : Hid (w2.heap[w.heap.size + 1]? = some (.cells #[.int .u8 0, .string ⟨#[]⟩, .int .i64 0, .int .i64 0, .int .i64 0, .int .i64 0, .int .i64 0, .int .u8 0, .bool false] 84 (0, 0))) := (hb2.block (w.heap.size + 1) (Array.getElem?_eq_some_iff.1 hBW).1).trans hBW
  have hS2 : Hid (IsStore w2 sb mb lim ver (cre + 1) log n D) := hSW.below hb2
  have hK2 : Hid (Kept sb mb w w2) := hKW.below hb2
  obtain ⟨⟨y0, y1, y2, y3, y4, y5, y6, y7, y8⟩, yf⟩ := nine hA2.out
  clear hSW hKW hAW hBW hW1 hWs
  go_wp2_with fail
  have hc7 := keep_any k nm (cre + 1) v r t ow ph false (w2.setCell ⟨w.heap.size, 1, none⟩ (.string nm)) sb mb lim ver (cre + 1) log n D 0 (hS2.out.setNew (by simpa using hne1) (by simp; omega) _) hv hv2 h0 h1 hnm hn
  rw [HL.out, HD.out] at hc7
  refine hc7.mono ?_
  rintro e w3 ⟨rfl, hS3, hK3⟩
  have hKf : Hid (Kept sb mb w w3) := (hK2.out.setNew (a := ⟨w.heap.size, 1, none⟩) (Nat.le_refl _) _).trans hK3
  have hB3 : Hid (w3.heap[w.heap.size + 1]? = some (.cells #[.int .u8 0, .string ⟨#[]⟩, .int .i64 0, .int .i64 0, .int .i64 0, .int .i64 0, .int .i64 0, .int .u8 0, .bool false] 84 (0, 0))) := (hK3.block (w.heap.size + 1) (by rw [size_set]; exact (Array.getElem?_eq_some_iff.1 hB2.out).1) (by omega) (by omega)).trans ((heap_set_other _ _ _ _ _ (by omega)).trans hB2.out)
  obtain ⟨⟨z0, z1, z2, z3, z4, z5, z6, z7, z8⟩, zf⟩ := nine hB3.out
  have HS3 : Hid (IsStore w3 sb mb lim (ver + 1) (cre + 1) log2 (n + 1) D2) := hS3
  clear y0 y1 y2 y3 y4 y5 y6 y7 y8 yf hS3 hK3 hc7 hc
  go_wp2
  refine bodyPost_ret (v := .tuple #[.agg #[.int .u8 k, .string nm, .int .i64 (cre + 1), .int .i64 (ver + 1), .int .i64 r, .int .i64 t, .int .i64 ow, .int .u8 ph, .bool false], .int .i64 0]) (by simp [results, Tryz.results50, go_sem, z0, z1, z2, z3, z4, z5, z6, z7, z8]) rfl ⟨rfl, ?_, ?_⟩
  · rw [← set9_def]
    exact set9_store (N := w.heap.size + 1) HS3.out (by omega) (by omega) _ _ _ _ _ _ _ _ _
  · rw [← set9_def]
    exact set9_kept (N := w.heap.size + 1) hKf.out (by omega) _ _ _ _ _ _ _ _ _

end Go.Proofs.YtdgfjneapialdaaGreatDoor.S
