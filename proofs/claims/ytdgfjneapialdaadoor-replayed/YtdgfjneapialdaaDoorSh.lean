import Derived.Test.YtdgfjneapialdaaDoorSd
import Derived.Test.YtdgfjneapialdaaDoorSg
namespace Go.Proofs.YtdgfjneapialdaaDoor
open Go Go.RowKit Go.Maps

theorem IsStore.lg' {w : World} (sb mb : Nat) (lim ver cre : Int) (log : List Value) (n : Nat) (D : DataW Unit) (h : IsStore w sb mb lim ver cre log n D) (i j : Nat) (hi : i < 16) (hj : j < 10) : ∃ v, w.cell? ⟨sb, 4 + i * 10 + j, none⟩ = some v := by
  obtain ⟨v, hv, _⟩ := h.lg (i * 10 + j) (by omega)
  exact ⟨v, by rw [Nat.add_assoc]; exact hv⟩
theorem IsStore.setLog' {w : World} (sb mb : Nat) (lim ver cre : Int) (log : List Value) (n : Nat) (D : DataW Unit) (h : IsStore w sb mb lim ver cre log n D) (i j : Nat) (x : Value) : IsStore (w.setCell ⟨sb, 4 + i * 10 + j, none⟩ x) sb mb lim ver cre (log.set (i * 10 + j) x) n D := by
  have := h.setLog (i * 10 + j) x
  rwa [← Nat.add_assoc] at this

def evCells (so k : Int) (s : ByteArray) (u v r t ow ph : Int) (g : Bool) : List Value := [.int .u8 so, .int .u8 k, .string s, .int .i64 u, .int .i64 v, .int .i64 r, .int .i64 t, .int .i64 ow, .int .u8 ph, .bool g]

set_option maxHeartbeats 1000000 in
theorem leaveEvent_any (k : Int) (s : ByteArray) (u v r t ow ph : Int) (g : Bool) (w : World) (sb mb : Nat) (lim ver cre : Int) (log : List Value) (n : Nat) (D : DataW Unit) (so : Int) (h : IsStore w sb mb lim ver cre log n D) (hv : 0 ≤ ver) (hv2 : ver < 600) :
    Calls Tryd.prog 38 #[.pointer (some ⟨sb, 0, none⟩), .int .u8 so, .agg #[.int .u8 k, .string s, .int .i64 u, .int .i64 v, .int .i64 r, .int .i64 t, .int .i64 ow, .int .u8 ph, .bool g]] w fun e w' => e = .returned (.agg #[.int .u8 k, .string s, .int .i64 u, .int .i64 (ver + 1), .int .i64 r, .int .i64 t, .int .i64 ow, .int .u8 ph, .bool g]) ∧
      IsStore w' sb mb lim (ver + 1) cre (logPut log (((ver + 1) % 16).toNat * 10) (evCells so k s u (ver + 1) r t ow ph g)) n D ∧ Kept sb mb w w' := by
  obtain ⟨i, hi⟩ : ∃ i : Nat, (ver + 1) % 16 = (i : Int) := ⟨((ver + 1) % 16).toNat, by omega⟩
  have hi2 : i < 16 := by omega
  rw [hi, Int.toNat_natCast]
  have c1 := h.c1
  have f1 := h.fz
  have hsb := h.lt
  obtain ⟨e0, d0⟩ := h.lg' _ _ _ _ _ _ _ _ i 0 hi2 (by omega)
  obtain ⟨e1, d1⟩ := h.lg' _ _ _ _ _ _ _ _ i 1 hi2 (by omega)
  obtain ⟨e2, d2⟩ := h.lg' _ _ _ _ _ _ _ _ i 2 hi2 (by omega)
  obtain ⟨e3, d3⟩ := h.lg' _ _ _ _ _ _ _ _ i 3 hi2 (by omega)
  obtain ⟨e4, d4⟩ := h.lg' _ _ _ _ _ _ _ _ i 4 hi2 (by omega)
  obtain ⟨e5, d5⟩ := h.lg' _ _ _ _ _ _ _ _ i 5 hi2 (by omega)
  obtain ⟨e6, d6⟩ := h.lg' _ _ _ _ _ _ _ _ i 6 hi2 (by omega)
  obtain ⟨e7, d7⟩ := h.lg' _ _ _ _ _ _ _ _ i 7 hi2 (by omega)
  obtain ⟨e8, d8⟩ := h.lg' _ _ _ _ _ _ _ _ i 8 hi2 (by omega)
  obtain ⟨e9, d9⟩ := h.lg' _ _ _ _ _ _ _ _ i 9 hi2 (by omega)
  simp only [Nat.add_zero] at d0
  have H : Hid (IsStore w sb mb lim ver cre log n D) := h
  clear h
  go_enter Tryd.func38, Tryd.ntmps38
  go_wp2
  go_region
  go_wp2
  refine bodyPost_ret (v := .agg #[.int .u8 k, .string s, .int .i64 u, .int .i64 (ver + 1), .int .i64 r, .int .i64 t, .int .i64 ow, .int .u8 ph, .bool g]) (by simp [results, Tryd.results38, go_sem]) rfl ⟨rfl, ?_, ?_⟩
  · have hfin := (((((((((((((H.out.set1 (ver + 1)).setLog (i * 10) (.int .u8 so)).setLog' _ _ _ _ _ _ _ _ i 1 (.int .u8 k)).setLog' _ _ _ _ _ _ _ _ i 2 (.string s)).setLog' _ _ _ _ _ _ _ _ i 3 (.int .i64 u)).setLog' _ _ _ _ _ _ _ _ i 4 (.int .i64 (ver + 1))).setLog' _ _ _ _ _ _ _ _ i 5 (.int .i64 r)).setLog' _ _ _ _ _ _ _ _ i 6 (.int .i64 t)).setLog' _ _ _ _ _ _ _ _ i 7 (.int .i64 ow)).setLog' _ _ _ _ _ _ _ _ i 8 (.int .u8 ph)).setLog' _ _ _ _ _ _ _ _ i 9 (.bool g)).alloc (.cells #[.int .u8 k, .string s, .int .i64 u, .int .i64 (ver + 1), .int .i64 r, .int .i64 t, .int .i64 ow, .int .u8 ph, .bool g] 36)).alloc (.cells #[.int .u8 k, .string s, .int .i64 u, .int .i64 (ver + 1), .int .i64 r, .int .i64 t, .int .i64 ow, .int .u8 ph, .bool g] 36)).drew
    simp only [logPut, evCells]
    exact hfin
  · exact ((((((((((((((Kept.refl sb mb w).setStore 1 _).setStore _ _).setStore _ _).setStore _ _).setStore _ _).setStore _ _).setStore _ _).setStore _ _).setStore _ _).setStore _ _).setStore _ _).alloc _).alloc _).drew

end Go.Proofs.YtdgfjneapialdaaDoor
