import Derived.Test.YtdgfjneapialdaaGreatDoorSk
import Derived.Test.YtdgfjneapialdaaGreatDoorSl
namespace Go.Proofs.YtdgfjneapialdaaGreatDoor.S
open Go Go.RowKit Go.Maps

set_option maxHeartbeats 1000000 in
theorem turn_same (k : Int) (s : ByteArray) (u v r t ow ph : Int) (g : Bool) (w : World) (sb : Nat) :
    Calls Tryz.prog 123 #[.pointer (some ⟨sb, 0, none⟩), .agg #[.int .u8 k, .string s, .int .i64 u, .int .i64 v, .int .i64 r, .int .i64 t, .int .i64 ow, .int .u8 ph, .bool g], .agg #[.int .u8 k, .string s, .int .i64 u, .int .i64 v, .int .i64 r, .int .i64 t, .int .i64 ow, .int .u8 ph, .bool g]] w fun e w' => e = .returned (.agg #[.int .u8 k, .string s, .int .i64 u, .int .i64 v, .int .i64 r, .int .i64 t, .int .i64 ow, .int .u8 ph, .bool g]) ∧ Below w.heap.size w w' := by
  have hq := fun w => eq29 k s u v r t ow ph g k s u v r t ow ph g w
  simp only [eqB_self] at hq
  have hg := guard29
  go_enter Tryz.func123, Tryz.ntmps123
  go_wp2
  exact bodyPost_ret (v := .agg #[.int .u8 k, .string s, .int .i64 u, .int .i64 v, .int .i64 r, .int .i64 t, .int .i64 ow, .int .u8 ph, .bool g]) (by simp [results, Tryz.results123, go_sem]) rfl ⟨rfl, (((Below.refl _ _).alloc (Nat.le_refl _) _).alloc (by simp) _).alloc (by simp; omega) _⟩

set_option maxHeartbeats 1000000 in
theorem turn_other (k : Int) (s : ByteArray) (u v r t ow ph : Int) (g : Bool) (k' : Int) (s' : ByteArray) (u' v' r' t' ow' ph' : Int) (g' : Bool) (w : World) (sb mb : Nat) (lim ver cre : Int) (log : List Value) (n : Nat) (D : DataW Unit) (h : IsStore w sb mb lim ver cre log n D) (hne : eqB k' s' u' v' r' t' ow' ph' g' k s u v r t ow ph g = false) (hv : 0 ≤ ver) (hv2 : ver < 600) (h0 : 0 ≤ k') (h1 : k' ≤ 255) (hs : s'.size ≤ maxLen) (hn : n < maxLen) :
    Calls Tryz.prog 123 #[.pointer (some ⟨sb, 0, none⟩), .agg #[.int .u8 k, .string s, .int .i64 u, .int .i64 v, .int .i64 r, .int .i64 t, .int .i64 ow, .int .u8 ph, .bool g], .agg #[.int .u8 k', .string s', .int .i64 u', .int .i64 v', .int .i64 r', .int .i64 t', .int .i64 ow', .int .u8 ph', .bool g']] w fun e w' => e = .returned (.agg #[.int .u8 k', .string s', .int .i64 u', .int .i64 (ver + 1), .int .i64 r', .int .i64 t', .int .i64 ow', .int .u8 ph', .bool g']) ∧
      IsStore w' sb mb lim (ver + 1) cre (logPut log (((ver + 1) % 16).toNat * 10) (evCells 1 k' s' u' (ver + 1) r' t' ow' ph' g')) (n + 1) (D.put (klit k' s') (Ob.mk k' s' u' (ver + 1) r' t' ow' ph' g').dat) ∧ Kept sb mb w w' := by
  have hq := fun w => eq29 k' s' u' v' r' t' ow' ph' g' k s u v r t ow ph g w
  simp only [hne] at hq
  have hg := guard29
  have hsb := h.lt
  have hmb := h.mlt
  have hc := keep_any k' s' u' v' r' t' ow' ph' g' (((w.alloc (.cells #[.int .u8 k, .string s, .int .i64 u, .int .i64 v, .int .i64 r, .int .i64 t, .int .i64 ow, .int .u8 ph, .bool g] 84)).alloc (.cells #[.int .u8 k', .string s', .int .i64 u', .int .i64 v', .int .i64 r', .int .i64 t', .int .i64 ow', .int .u8 ph', .bool g'] 84)).alloc (.cells #[.int .u8 0, .string ⟨#[]⟩, .int .i64 0, .int .i64 0, .int .i64 0, .int .i64 0, .int .i64 0, .int .u8 0, .bool false] 84)) sb mb lim ver cre log n D 1 (((h.alloc _).alloc _).alloc _) hv hv2 h0 h1 hs hn
  generalize logPut log (((ver + 1) % 16).toNat * 10) (evCells 1 k' s' u' (ver + 1) r' t' ow' ph' g') = log2 at hc ⊢
  generalize D.put (klit k' s') (Ob.mk k' s' u' (ver + 1) r' t' ow' ph' g').dat = D2 at hc ⊢
  clear h hne
  have hle : w.heap.size ≤ w.heap.size + 1 + 1 := by omega
  go_enter Tryz.func123, Tryz.ntmps123
  go_wp2_with (go_at_call 114; refine hc.mono ?_; rintro e w1 ⟨rfl, hS, hK⟩; obtain ⟨hcell, hfz⟩ := hK.new hsb hmb)
  refine bodyPost_ret (v := .agg #[.int .u8 k', .string s', .int .i64 u', .int .i64 (ver + 1), .int .i64 r', .int .i64 t', .int .i64 ow', .int .u8 ph', .bool g']) (by simp [results, Tryz.results123, go_sem, hcell, hle]) rfl ⟨rfl, ?_, ?_⟩
  · rw [← set9_def]
    exact set9_store hS (by omega) (by omega) _ _ _ _ _ _ _ _ _
  · rw [← set9_def]
    exact set9_kept ((((Kept.refl sb mb w).alloc _).alloc _).alloc _ |>.trans hK) (by omega) _ _ _ _ _ _ _ _ _

end Go.Proofs.YtdgfjneapialdaaGreatDoor.S
