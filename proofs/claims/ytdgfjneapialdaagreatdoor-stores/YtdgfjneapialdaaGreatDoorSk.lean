import Derived.Test.YtdgfjneapialdaaGreatDoorSa
import Derived.Deep.RegionHeld
namespace Go.Proofs.YtdgfjneapialdaaGreatDoor.S
open Go Go.RowKit Go.Maps

/-- Nine cells of one block, laid one after the other. -/
def set9 (w : World) (N : Nat) (y0 y1 y2 y3 y4 y5 y6 y7 y8 : Value) : World := (((((((((w.setCell ⟨N, 0, none⟩ y0).setCell ⟨N, 1, none⟩ y1).setCell ⟨N, 2, none⟩ y2).setCell ⟨N, 3, none⟩ y3).setCell ⟨N, 4, none⟩ y4).setCell ⟨N, 5, none⟩ y5).setCell ⟨N, 6, none⟩ y6).setCell ⟨N, 7, none⟩ y7).setCell ⟨N, 8, none⟩ y8)
theorem set9_def (w : World) (N : Nat) (y0 y1 y2 y3 y4 y5 y6 y7 y8 : Value) : set9 w N y0 y1 y2 y3 y4 y5 y6 y7 y8 = (((((((((w.setCell ⟨N, 0, none⟩ y0).setCell ⟨N, 1, none⟩ y1).setCell ⟨N, 2, none⟩ y2).setCell ⟨N, 3, none⟩ y3).setCell ⟨N, 4, none⟩ y4).setCell ⟨N, 5, none⟩ y5).setCell ⟨N, 6, none⟩ y6).setCell ⟨N, 7, none⟩ y7).setCell ⟨N, 8, none⟩ y8) := rfl
theorem heap_set_other (w : World) (N o : Nat) (v : Value) (b : Nat) (hb : b ≠ N) : (w.setCell ⟨N, o, none⟩ v).heap[b]? = w.heap[b]? := Below.heap_setCell w _ v b hb
theorem size_set (w : World) (a : Addr) (v : Value) : (w.setCell a v).heap.size = w.heap.size := by simp [World.setCell]
theorem set9_same {w : World} {N : Nat} {t : TypeId} {x0 x1 x2 x3 x4 x5 x6 x7 x8 : Value} (y0 y1 y2 y3 y4 y5 y6 y7 y8 : Value) (h : w.heap[N]? = some (.cells #[x0, x1, x2, x3, x4, x5, x6, x7, x8] t (0, 0))) : (set9 w N y0 y1 y2 y3 y4 y5 y6 y7 y8).heap[N]? = some (.cells #[y0, y1, y2, y3, y4, y5, y6, y7, y8] t (0, 0)) := by
  rw [set9_def]
  have := heap_setCell_same (sb := N) (heap_setCell_same (sb := N) (heap_setCell_same (sb := N) (heap_setCell_same (sb := N) (heap_setCell_same (sb := N) (heap_setCell_same (sb := N) (heap_setCell_same (sb := N) (heap_setCell_same (sb := N) (heap_setCell_same (sb := N) h 0 y0) 1 y1) 2 y2) 3 y3) 4 y4) 5 y5) 6 y6) 7 y7) 8 y8
  rw [this]
  simp
theorem set9_other (w : World) (N : Nat) (y0 y1 y2 y3 y4 y5 y6 y7 y8 : Value) (b : Nat) (hb : b ≠ N) : (set9 w N y0 y1 y2 y3 y4 y5 y6 y7 y8).heap[b]? = w.heap[b]? := by
  rw [set9_def]
  iterate 9 rw [heap_set_other _ _ _ _ _ hb]
theorem set9_size (w : World) (N : Nat) (y0 y1 y2 y3 y4 y5 y6 y7 y8 : Value) : (set9 w N y0 y1 y2 y3 y4 y5 y6 y7 y8).heap.size = w.heap.size := by
  rw [set9_def]
  iterate 9 rw [size_set]
theorem set9_kept {w W : World} {sb mb : Nat} (h : Kept sb mb w W) {N : Nat} (hN : w.heap.size ≤ N) (y0 y1 y2 y3 y4 y5 y6 y7 y8 : Value) : Kept sb mb w (set9 W N y0 y1 y2 y3 y4 y5 y6 y7 y8) := by
  rw [set9_def]
  iterate 9 refine Kept.setNew ?_ hN _
  exact h
theorem set9_below {w W : World} {B : Nat} (h : Below B w W) {N : Nat} (hN : B ≤ N) (y0 y1 y2 y3 y4 y5 y6 y7 y8 : Value) : Below B w (set9 W N y0 y1 y2 y3 y4 y5 y6 y7 y8) := by
  rw [set9_def]
  iterate 9 refine Below.setCell ?_ hN _
  exact h
theorem set9_store {w : World} {sb mb : Nat} {lim ver cre : Int} {log : List Value} {n : Nat} {D : DataW Unit} (h : IsStore w sb mb lim ver cre log n D) {N : Nat} (h1 : sb ≠ N) (h2 : mb ≠ N) (y0 y1 y2 y3 y4 y5 y6 y7 y8 : Value) : IsStore (set9 w N y0 y1 y2 y3 y4 y5 y6 y7 y8) sb mb lim ver cre log n D :=
  h.keep (set9_other _ _ y0 y1 y2 y3 y4 y5 y6 y7 y8 _ h1) (set9_other _ _ y0 y1 y2 y3 y4 y5 y6 y7 y8 _ h2)
theorem nine {w : World} {N : Nat} {t : TypeId} {x0 x1 x2 x3 x4 x5 x6 x7 x8 : Value} (h : w.heap[N]? = some (.cells #[x0, x1, x2, x3, x4, x5, x6, x7, x8] t (0, 0))) : (w.cell? ⟨N, 0, none⟩ = some x0 ∧ w.cell? ⟨N, 1, none⟩ = some x1 ∧ w.cell? ⟨N, 2, none⟩ = some x2 ∧ w.cell? ⟨N, 3, none⟩ = some x3 ∧ w.cell? ⟨N, 4, none⟩ = some x4 ∧ w.cell? ⟨N, 5, none⟩ = some x5 ∧ w.cell? ⟨N, 6, none⟩ = some x6 ∧ w.cell? ⟨N, 7, none⟩ = some x7 ∧ w.cell? ⟨N, 8, none⟩ = some x8) ∧ ∀ o, w.frozen? ⟨N, o, none⟩ = false := by
  refine ⟨⟨?_, ?_, ?_, ?_, ?_, ?_, ?_, ?_, ?_⟩, fun o => by simp [World.frozen?, h]⟩ <;> simp [World.cell?, h]

end Go.Proofs.YtdgfjneapialdaaGreatDoor.S

namespace Go.Proofs.YtdgfjneapialdaaGreatDoor.S
open Go Go.RowKit Go.Maps

set_option maxHeartbeats 1000000 in
theorem forWriting_old (w : World) (sb mb : Nat) (lim ver cre : Int) (log : List Value) (n : Nat) (D : DataW Unit) (k : Int) (s : ByteArray) (h : IsStore w sb mb lim ver cre log n D) (hv : ver = 600) :
    Calls Tryz.prog 121 #[.pointer (some ⟨sb, 0, none⟩), .int .u8 k, .string s] w fun e w' => e = .returned (.tuple #[.agg #[.int .u8 0, .string ⟨#[]⟩, .int .i64 0, .int .i64 0, .int .i64 0, .int .i64 0, .int .i64 0, .int .u8 0, .bool false], .int .i64 6]) ∧ Below w.heap.size w w' := by
  subst hv
  have c1 := h.c1
  have hsb := h.lt
  clear h
  go_enter Tryz.func121, Tryz.ntmps121
  go_wp2
  exact bodyPost_ret (v := .tuple #[.agg #[.int .u8 0, .string ⟨#[]⟩, .int .i64 0, .int .i64 0, .int .i64 0, .int .i64 0, .int .i64 0, .int .u8 0, .bool false], .int .i64 6]) (by simp [results, Tryz.results121, go_sem]) rfl ⟨rfl, (Below.refl _ _).alloc (Nat.le_refl _) _⟩

set_option maxHeartbeats 1000000 in
theorem forWriting_miss (w : World) (sb mb : Nat) (lim ver cre : Int) (log : List Value) (n : Nat) (D : DataW Unit) (k : Int) (s : ByteArray) (h : IsStore w sb mb lim ver cre log n D) (hv : ver ≠ 600) (h0 : 0 ≤ k) (h1 : k ≤ 255) (hs : s.size ≤ maxLen) (ha : Out D k s) :
    Calls Tryz.prog 121 #[.pointer (some ⟨sb, 0, none⟩), .int .u8 k, .string s] w fun e w' => e = .returned (.tuple #[.agg #[.int .u8 0, .string ⟨#[]⟩, .int .i64 0, .int .i64 0, .int .i64 0, .int .i64 0, .int .i64 0, .int .u8 0, .bool false], .int .i64 3]) ∧ Below w.heap.size w w' := by
  have c1 := h.c1
  have hsb := h.lt
  have hv' : (ver == 600) = false := by simpa using hv
  have hc := fun o => get_miss (w.alloc o) sb mb lim ver cre log n D k s (h.alloc o) h0 h1 hs ha
  clear h hv
  go_enter Tryz.func121, Tryz.ntmps121
  go_wp2_with (go_at_call 52; refine (hc _).mono ?_; rintro e w1 ⟨rfl, hb⟩; obtain ⟨hcell, hfz⟩ := bcell hb)
  refine bodyPost_ret (v := .tuple #[.agg #[.int .u8 0, .string ⟨#[]⟩, .int .i64 0, .int .i64 0, .int .i64 0, .int .i64 0, .int .i64 0, .int .u8 0, .bool false], .int .i64 3]) (by simp [results, Tryz.results121, go_sem, hcell]) rfl ⟨rfl, ?_⟩
  rw [← set9_def]
  exact set9_below (((Below.refl _ _).alloc (Nat.le_refl _) _).trans (hb.mono (by simp))) (Nat.le_refl _) _ _ _ _ _ _ _ _ _

set_option maxHeartbeats 1000000 in
theorem forWriting_hit (w : World) (sb mb : Nat) (lim ver cre : Int) (log : List Value) (n : Nat) (D : DataW Unit) (k : Int) (s : ByteArray) (o : Ob) (h : IsStore w sb mb lim ver cre log n D) (hv : ver ≠ 600) (h0 : 0 ≤ k) (h1 : k ≤ 255) (hs : s.size ≤ maxLen) (ha : At D k s o) :
    Calls Tryz.prog 121 #[.pointer (some ⟨sb, 0, none⟩), .int .u8 k, .string s] w fun e w' => e = .returned (.tuple #[.agg o.arr, .int .i64 0]) ∧ Below w.heap.size w w' := by
  have c1 := h.c1
  have hsb := h.lt
  have hv' : (ver == 600) = false := by simpa using hv
  have hc := fun ob => get_hit (w.alloc ob) sb mb lim ver cre log n D k s o (h.alloc ob) h0 h1 hs ha
  obtain ⟨a0, a1, a2, a3, a4, a5, a6, a7, a8⟩ := o
  simp only [Ob.arr] at hc ⊢
  clear h hv ha
  go_enter Tryz.func121, Tryz.ntmps121
  go_wp2_with (go_at_call 52; refine (hc _).mono ?_; rintro e w1 ⟨rfl, hb⟩; obtain ⟨hcell, hfz⟩ := bcell hb)
  refine bodyPost_ret (v := .tuple #[.agg #[.int .u8 a0, .string a1, .int .i64 a2, .int .i64 a3, .int .i64 a4, .int .i64 a5, .int .i64 a6, .int .u8 a7, .bool a8], .int .i64 0]) (by simp [results, Tryz.results121, go_sem, hcell]) rfl ⟨rfl, ?_⟩
  rw [← set9_def]
  exact set9_below (((Below.refl _ _).alloc (Nat.le_refl _) _).trans (hb.mono (by simp))) (Nat.le_refl _) _ _ _ _ _ _ _ _ _

theorem alloc_last (w : World) (o : Obj) : (w.alloc o).heap[w.heap.size]? = some o := (MapKept.heap_alloc w o).1
theorem alloc_last' (w : World) (o o' : Obj) : ((w.alloc o).alloc o').heap[w.heap.size]? = some o := by
  rw [Below.heap_alloc _ _ _ (by simp)]; exact alloc_last w o
theorem alloc_last2 (w : World) (o o' : Obj) : ((w.alloc o).alloc o').heap[w.heap.size + 1]? = some o' := by
  have := alloc_last (w.alloc o) o'
  simpa using this

set_option maxHeartbeats 400000 in
/-- KeyOf: what an object is called by. -/
theorem keyOf_any (k : Int) (s : ByteArray) (u v r t ow ph : Int) (g : Bool) (w : World) :
    Calls Tryz.prog 175 #[.agg #[.int .u8 k, .string s, .int .i64 u, .int .i64 v, .int .i64 r, .int .i64 t, .int .i64 ow, .int .u8 ph, .bool g]] w fun e w' => e = .returned (.agg #[.int .u8 k, .string s]) ∧ Below w.heap.size w w' := by
  go_enter Tryz.func175, Tryz.ntmps175
  go_wp2
  refine bodyPost_ret (v := .agg #[.int .u8 k, .string s]) (by simp [results, Tryz.results175, go_sem]) rfl ⟨rfl, ?_⟩
  exact ((Below.refl w.heap.size w).alloc (Nat.le_refl _) _).alloc (by simp) _

set_option maxHeartbeats 1000000 in
theorem keep_any (k : Int) (s : ByteArray) (u v r t ow ph : Int) (g : Bool) (w : World) (sb mb : Nat) (lim ver cre : Int) (log : List Value) (n : Nat) (D : DataW Unit) (so : Int) (h : IsStore w sb mb lim ver cre log n D) (hv : 0 ≤ ver) (hv2 : ver < 600) (h0 : 0 ≤ k) (h1 : k ≤ 255) (hs : s.size ≤ maxLen) (hn : n < maxLen) :
    Calls Tryz.prog 114 #[.pointer (some ⟨sb, 0, none⟩), .int .u8 so, .agg #[.int .u8 k, .string s, .int .i64 u, .int .i64 v, .int .i64 r, .int .i64 t, .int .i64 ow, .int .u8 ph, .bool g]] w fun e w' => e = .returned (.agg #[.int .u8 k, .string s, .int .i64 u, .int .i64 (ver + 1), .int .i64 r, .int .i64 t, .int .i64 ow, .int .u8 ph, .bool g]) ∧
      IsStore w' sb mb lim (ver + 1) cre (logPut log (((ver + 1) % 16).toNat * 10) (evCells so k s u (ver + 1) r t ow ph g)) (n + 1) (D.put (klit k s) (Ob.mk k s u (ver + 1) r t ow ph g).dat) ∧ Kept sb mb w w' := by
  have hsb := h.lt
  have hmb := h.mlt
  have hc := leaveEvent_any k s u v r t ow ph g ((w.alloc (.cells #[.int .u8 k, .string s, .int .i64 u, .int .i64 v, .int .i64 r, .int .i64 t, .int .i64 ow, .int .u8 ph, .bool g] 84)).alloc (.cells #[.int .u8 0, .string ⟨#[]⟩, .int .i64 0, .int .i64 0, .int .i64 0, .int .i64 0, .int .i64 0, .int .u8 0, .bool false] 84)) sb mb lim ver cre log n D so ((h.alloc _).alloc _) hv hv2
  clear h
  generalize logPut log (((ver + 1) % 16).toNat * 10) (evCells so k s u (ver + 1) r t ow ph g) = log2 at hc ⊢
  go_enter Tryz.func114, Tryz.ntmps114
  go_wp2_with (go_at_call 125; refine hc.mono ?_; rintro e w1 ⟨rfl, hS, hK⟩; obtain ⟨hcell, hfz⟩ := hK.new hsb hmb)
  have hb0 : w1.heap[w.heap.size]? = some (.cells #[.int .u8 k, .string s, .int .i64 u, .int .i64 v, .int .i64 r, .int .i64 t, .int .i64 ow, .int .u8 ph, .bool g] 84 (0, 0)) := (hK.block _ (by simp; omega) (by omega) (by omega)).trans (alloc_last' _ _ _)
  have hb1 : w1.heap[w.heap.size + 1]? = some (.cells #[.int .u8 0, .string ⟨#[]⟩, .int .i64 0, .int .i64 0, .int .i64 0, .int .i64 0, .int .i64 0, .int .u8 0, .bool false] 84 (0, 0)) := (hK.block _ (by simp) (by omega) (by omega)).trans (alloc_last2 _ _ _)
  rw [← set9_def]
  have hkW := set9_kept (((Kept.refl sb mb w).alloc (.cells #[.int .u8 k, .string s, .int .i64 u, .int .i64 v, .int .i64 r, .int .i64 t, .int .i64 ow, .int .u8 ph, .bool g] 84)).alloc (.cells #[.int .u8 0, .string ⟨#[]⟩, .int .i64 0, .int .i64 0, .int .i64 0, .int .i64 0, .int .i64 0, .int .u8 0, .bool false] 84) |>.trans hK) (N := w.heap.size) (Nat.le_refl _) (.int .u8 k) (.string s) (.int .i64 u) (.int .i64 (ver + 1)) (.int .i64 r) (.int .i64 t) (.int .i64 ow) (.int .u8 ph) (.bool g)
  have hSW := set9_store hS (N := w.heap.size) (by omega) (by omega) (.int .u8 k) (.string s) (.int .i64 u) (.int .i64 (ver + 1)) (.int .i64 r) (.int .i64 t) (.int .i64 ow) (.int .u8 ph) (.bool g)
  have hW0 := set9_same (.int .u8 k) (.string s) (.int .i64 u) (.int .i64 (ver + 1)) (.int .i64 r) (.int .i64 t) (.int .i64 ow) (.int .u8 ph) (.bool g) hb0
  have hW1 := (set9_other w1 w.heap.size (.int .u8 k) (.string s) (.int .i64 u) (.int .i64 (ver + 1)) (.int .i64 r) (.int .i64 t) (.int .i64 ow) (.int .u8 ph) (.bool g) (w.heap.size + 1) (by omega)).trans hb1
  generalize set9 w1 w.heap.size (.int .u8 k) (.string s) (.int .i64 u) (.int .i64 (ver + 1)) (.int .i64 r) (.int .i64 t) (.int .i64 ow) (.int .u8 ph) (.bool g) = W at hkW hSW hW0 hW1 ⊢
  clear hcell hfz hb0 hb1 hS hK hc
  have c3 := hSW.c3
  obtain ⟨⟨p0, p1, p2, p3, p4, p5, p6, p7, p8⟩, _⟩ := nine hW0
  have hcK := keyOf_any k s u (ver + 1) r t ow ph g W.drew
  have HSW : Hid (IsStore W sb mb lim (ver + 1) cre log2 n D) := hSW
  have HKW : Hid (Kept sb mb w W) := hkW
  have HW0 : Hid _ := hW0
  have HW1 : Hid _ := hW1
  have HLS : Hid (sb < W.heap.size ∧ w.heap.size < W.heap.size) := ⟨hSW.lt, (Array.getElem?_eq_some_iff.1 hW0).1⟩
  have hNK : ∀ W', Below W.drew.heap.size W.drew W' → (W'.cell? ⟨sb, 3, none⟩ = some (.map (some mb)) ∧ W'.cell? ⟨w.heap.size, 0, none⟩ = some (.int .u8 k) ∧ W'.cell? ⟨w.heap.size, 1, none⟩ = some (.string s) ∧ W'.cell? ⟨w.heap.size, 2, none⟩ = some (.int .i64 u) ∧ W'.cell? ⟨w.heap.size, 3, none⟩ = some (.int .i64 (ver + 1)) ∧ W'.cell? ⟨w.heap.size, 4, none⟩ = some (.int .i64 r) ∧ W'.cell? ⟨w.heap.size, 5, none⟩ = some (.int .i64 t) ∧ W'.cell? ⟨w.heap.size, 6, none⟩ = some (.int .i64 ow) ∧ W'.cell? ⟨w.heap.size, 7, none⟩ = some (.int .u8 ph) ∧ W'.cell? ⟨w.heap.size, 8, none⟩ = some (.bool g)) := fun W' hb => by
    have e1 : ∀ o, W'.cell? ⟨w.heap.size, o, none⟩ = W.cell? ⟨w.heap.size, o, none⟩ := fun o => hb.cell (p := ⟨w.heap.size, o, none⟩) HLS.out.2
    have e2 : W'.cell? ⟨sb, 3, none⟩ = W.cell? ⟨sb, 3, none⟩ := hb.cell (p := ⟨sb, 3, none⟩) HLS.out.1
    simp only [e1, e2]
    exact ⟨c3, p0, p1, p2, p3, p4, p5, p6, p7, p8⟩
  have HNK : Hid _ := hNK
  have HNE : Hid (mb ≠ sb) := hSW.ne
  have hNK2 : ∀ w2 W2 : World, Below W.drew.heap.size W.drew w2 → w2.mapTurned W2 mb → (W2.cell? ⟨sb, 3, none⟩ = some (.map (some mb)) ∧ W2.cell? ⟨w.heap.size, 0, none⟩ = some (.int .u8 k) ∧ W2.cell? ⟨w.heap.size, 1, none⟩ = some (.string s) ∧ W2.cell? ⟨w.heap.size, 2, none⟩ = some (.int .i64 u) ∧ W2.cell? ⟨w.heap.size, 3, none⟩ = some (.int .i64 (ver + 1)) ∧ W2.cell? ⟨w.heap.size, 4, none⟩ = some (.int .i64 r) ∧ W2.cell? ⟨w.heap.size, 5, none⟩ = some (.int .i64 t) ∧ W2.cell? ⟨w.heap.size, 6, none⟩ = some (.int .i64 ow) ∧ W2.cell? ⟨w.heap.size, 7, none⟩ = some (.int .u8 ph) ∧ W2.cell? ⟨w.heap.size, 8, none⟩ = some (.bool g)) := fun w2 W2 hb2 hturn => by
    have hs3 := HNK.out w2 hb2
    have hz2 : W.heap.size ≤ w2.heap.size := hb2.size
    have hblk2 : ∀ b, b < w2.heap.size → b ≠ mb → W2.heap[b]? = w2.heap[b]? := fun b hb hne => hturn.grown.block b hb (fun e => hne (Option.some.inj e))
    have e1 : ∀ o, W2.cell? ⟨w.heap.size, o, none⟩ = w2.cell? ⟨w.heap.size, o, none⟩ := fun o => World.cell?_of_block (hblk2 w.heap.size (Nat.lt_of_lt_of_le HLS.out.2 hz2) (by omega))
    have e2 : W2.cell? ⟨sb, 3, none⟩ = w2.cell? ⟨sb, 3, none⟩ := World.cell?_of_block (hblk2 _ (Nat.lt_of_lt_of_le HLS.out.1 hz2) HNE.out.symm)
    simp only [e1, e2]
    exact hs3
  have HNK2 : Hid _ := hNK2
  clear hNK2
  have hs0 := HNK.out W.drew (Below.refl _ _)
  clear hNK hSW hkW hW0 hW1
  go_region_held (fun w' => w'.cell? ⟨sb, 3, none⟩ = some (.map (some mb)) ∧ w'.cell? ⟨w.heap.size, 0, none⟩ = some (.int .u8 k) ∧ w'.cell? ⟨w.heap.size, 1, none⟩ = some (.string s) ∧ w'.cell? ⟨w.heap.size, 2, none⟩ = some (.int .i64 u) ∧ w'.cell? ⟨w.heap.size, 3, none⟩ = some (.int .i64 (ver + 1)) ∧ w'.cell? ⟨w.heap.size, 4, none⟩ = some (.int .i64 r) ∧ w'.cell? ⟨w.heap.size, 5, none⟩ = some (.int .i64 t) ∧ w'.cell? ⟨w.heap.size, 6, none⟩ = some (.int .i64 ow) ∧ w'.cell? ⟨w.heap.size, 7, none⟩ = some (.int .u8 ph) ∧ w'.cell? ⟨w.heap.size, 8, none⟩ = some (.bool g)) (assumption)
    (first | (go_at_call 175; refine hcK.mono ?_; rintro e w2 ⟨rfl, hb2⟩; have hs3 := HNK.out w2 hb2
              have hS2 : IsStore w2 sb mb lim (ver + 1) cre log2 n D := HSW.out.drew.below hb2
              obtain ⟨W2, hrun, hown, hturn⟩ := hS2.map.store law58 Tryz.underlying105 hn (key58 k s h0 h1 hs) (objR_mk (Ob.mk k s u (ver + 1) r t ow ph g))
              have hs4 := HNK2.out w2 W2 hb2 hturn
              have HF1 : Hid (Below W.drew.heap.size W.drew w2) := hb2
              have HF2 : Hid (IsStore w2 sb mb lim (ver + 1) cre log2 n D) := hS2
              have HF3 : Hid _ := hown
              have HF4 : Hid (w2.mapTurned W2 mb) := hturn
              clear hb2 hS2 hown hturn
              simp only [keyV, Ob.arr] at hrun))
  have hblk : ∀ b, b < W.heap.size → b ≠ mb → W2.heap[b]? = W.heap[b]? := fun b hb hne => (HF4.out.grown.block b (Nat.lt_of_lt_of_le hb HF1.out.size) (fun e => hne (Option.some.inj e))).trans (HF1.out.block b hb)
  have g0 := (hblk w.heap.size (Array.getElem?_eq_some_iff.1 HW0.out).1 (by omega)).trans HW0.out
  have g1 := (hblk (w.heap.size + 1) (Array.getElem?_eq_some_iff.1 HW1.out).1 (by omega)).trans HW1.out
  obtain ⟨⟨q0, q1, q2, q3, q4, q5, q6, q7, q8⟩, _⟩ := nine g0
  obtain ⟨⟨z0, z1, z2, z3, z4, z5, z6, z7, z8⟩, zf⟩ := nine g1
  have HK : Hid (Kept sb mb w W2) := (HKW.out.drew.below HF1.out).turned HF4.out
  have HS : Hid (IsStore W2 sb mb lim (ver + 1) cre log2 (n + 1) (D.put (klit k s) (Ob.mk k s u (ver + 1) r t ow ph g).dat)) := ⟨(hblk sb HSW.out.lt HNE.out.symm).trans HSW.out.blk, HSW.out.len, HF3.out⟩
  clear p0 p1 p2 p3 p4 p5 p6 p7 p8 hrun c3 hs0 hs4 hs3 hcK hblk g0 g1
  go_wp2
  refine bodyPost_ret (v := .agg #[.int .u8 k, .string s, .int .i64 u, .int .i64 (ver + 1), .int .i64 r, .int .i64 t, .int .i64 ow, .int .u8 ph, .bool g]) (by simp [results, Tryz.results114, go_sem, z0, z1, z2, z3, z4, z5, z6, z7, z8]) rfl ⟨rfl, ?_, ?_⟩
  · rw [← set9_def]
    exact set9_store HS.out (by omega) (by omega) _ _ _ _ _ _ _ _ _
  · rw [← set9_def]
    exact set9_kept HK.out (by omega) _ _ _ _ _ _ _ _ _

end Go.Proofs.YtdgfjneapialdaaGreatDoor.S
