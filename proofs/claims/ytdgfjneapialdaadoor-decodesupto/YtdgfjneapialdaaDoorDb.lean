import Derived.Test.YtdgfjneapialdaaDoorDa
import Derived.Deep.RegionWith
import Derived.Deep.RegionHeld
namespace Go.Proofs.YtdgfjneapialdaaDoor
open Go Go.RowKit Go.Maps Go.Lib Go.Sort

def nameV (k b : Int) : ByteArray := if k = 4 ∨ k = 5 then ⟨#[112]⟩ ++ numW b else Utf8.encode (97 + b % 26)
set_option maxHeartbeats 400000 in
theorem name_any (k b : Int) (w : World) (hT : Tab w) (hb0 : 0 ≤ b) (hb : b ≤ 255) :
    Calls Tryd.prog 33 #[.int .u8 k, .int .u8 b] w fun e w' => e = .returned (.string (nameV k b)) ∧ Below w.heap.size w w' := by
  have hc := itoa_any b (by omega) (by omega) w hT
  have hs := numW_size b (by omega) (by omega)
  have hml : (numW b).size + 1 ≤ maxLen := by unfold maxLen; omega
  unfold maxLen at hml
  by_cases h4 : k = 4
  · have e4 : (k == 4) = true := by rw [h4]; rfl
    have HN : Hid (nameV k b = ⟨#[112]⟩ ++ numW b) := if_pos (Or.inl h4)
    clear h4
    go_enter Tryd.func33, Tryd.ntmps33
    go_wp2_with fail
    refine hc.mono ?_
    rintro e w' ⟨rfl, hb⟩
    go_wp2
    go_ret
    exact ⟨by rw [HN.out]; rfl, hb⟩
  · have e4 : (k == 4) = false := by rw [beq_eq_false_iff_ne]; exact h4
    by_cases h5 : k = 5
    · have e5 : (k == 5) = true := by rw [h5]; rfl
      have HN : Hid (nameV k b = ⟨#[112]⟩ ++ numW b) := if_pos (Or.inr h5)
      clear h4 h5
      go_enter Tryd.func33, Tryd.ntmps33
      go_wp2_with fail
      refine hc.mono ?_
      rintro e w' ⟨rfl, hb⟩
      go_wp2
      go_ret
      exact ⟨by rw [HN.out]; rfl, hb⟩
    · have e5 : (k == 5) = false := by rw [beq_eq_false_iff_ne]; exact h5
      have HN : Hid (nameV k b = Utf8.encode (97 + b % 26)) := if_neg (fun h => h.elim h4 h5)
      clear h4 h5 hc
      go_enter Tryd.func33, Tryd.ntmps33
      go_wp2
      go_ret
      exact ⟨by rw [HN.out]; rfl, Below.refl _ _⟩

def sgn (c : Int) : Int := if c > 127 then c - 256 else c
theorem w8f : ∀ n : Fin 256, IntKind.i64.wrap (IntKind.i8.wrap (n.val : Int)) = sgn (n.val : Int) := by decide +kernel
theorem w64f : ∀ n : Fin 256, IntKind.i64.wrap (n.val : Int) = (n.val : Int) := by decide +kernel
theorem w8 (c : UInt8) : IntKind.i64.wrap (IntKind.i8.wrap (c.toNat : Int)) = sgn (c.toNat : Int) := w8f ⟨c.toNat, c.toNat_lt⟩
theorem w64 (c : UInt8) : IntKind.i64.wrap (c.toNat : Int) = (c.toNat : Int) := w64f ⟨c.toNat, c.toNat_lt⟩
set_option maxHeartbeats 1000000 in
theorem one_any (s : ByteArray) (h4 : 4 ≤ s.size) (hs : s.size ≤ 1000000000000) (w : World) (hT : Tab w) :
    Calls Tryd.prog 18 #[.string s] w fun e w' => e = .returned (.agg #[.int .u8 s[0].toNat, .string (nameV s[0].toNat s[1].toNat), .int .i64 (sgn s[2].toNat), .int .i64 s[3].toNat]) ∧ Below w.heap.size w w' := by
  have b0 := s[0].toNat_lt
  have b1 := s[1].toNat_lt
  have b2 := s[2].toNat_lt
  have b3 := s[3].toNat_lt
  have i0 : 0 < s.size := by omega
  have i1 : 1 < s.size := by omega
  have i2 : 2 < s.size := by omega
  have i3 : 3 < s.size := by omega
  have j0 : (0 : Int) < (s.size : Int) := by omega
  have j1 : (1 : Int) < (s.size : Int) := by omega
  have j2 : (2 : Int) < (s.size : Int) := by omega
  have j3 : (3 : Int) < (s.size : Int) := by omega
  have hc := name_any s[0].toNat s[1].toNat ((w.alloc (.cells #[.int .u8 0, .string ⟨#[]⟩, .int .i64 0, .int .i64 0] 25)).drew) (hT.below ((belowAl (Below.refl _ _) _).drew)) (by omega) (by omega)
  have HX0 : Hid ((w.alloc (.cells #[.int .u8 0, .string ⟨#[]⟩, .int .i64 0, .int .i64 0] 25)).drew.heap[w.heap.size]? = some (.cells #[.int .u8 0, .string ⟨#[]⟩, .int .i64 0, .int .i64 0] 25 (0, 0))) := (MapKept.heap_alloc w _).1
  go_enter Tryd.func18, Tryd.ntmps18
  go_wp2_with fail
  refine wp_region_held_drew (S := fun _ => True) (by kernel_rfl) trivial (fun _ => ?_)
  refine wpAnyH_take (i := 0) (oi := { dst := some 3, op := Op.move (Operand.tmp 0), type := 9, pos := "decode.go:26", after := #[], guard := none }) (v := ?_) rfl (by kernel_rfl) (by kernel_rfl) (by kernel_rfl) (fun _ _ _ h => h) (Or.inl ⟨by rfl, ?_⟩) trivial ?_
  rotate_left
  · intro w _
    go_simp
    try with_reducible rfl
  simp only [Act.put, List.setIfInBounds_toArray, List.set_cons_zero, List.set_cons_succ]
  refine wpAnyH_take (i := 1) (oi := { dst := some 4, op := Op.index 9 (Operand.tmp 3) (Operand.const (Value.int IntKind.i64 0)), type := 5, pos := "decode.go:26", after := #[{ on := 0, ground := Ground.data }], guard := none }) (v := ?_) rfl (by kernel_rfl) (by kernel_rfl) (by kernel_rfl) (fun _ _ _ h => h) (Or.inl ⟨by rfl, ?_⟩) trivial ?_
  rotate_left
  · intro w _
    go_simp
    try with_reducible rfl
  simp only [Act.put, List.setIfInBounds_toArray, List.set_cons_zero, List.set_cons_succ]
  refine wpAnyH_take (i := 2) (oi := { dst := some 5, op := Op.move (Operand.tmp 0), type := 9, pos := "decode.go:26", after := #[], guard := none }) (v := ?_) rfl (by kernel_rfl) (by kernel_rfl) (by kernel_rfl) (fun _ _ _ h => h) (Or.inl ⟨by rfl, ?_⟩) trivial ?_
  rotate_left
  · intro w _
    go_simp
    try with_reducible rfl
  simp only [Act.put, List.setIfInBounds_toArray, List.set_cons_zero, List.set_cons_succ]
  refine wpAnyH_take (i := 3) (oi := { dst := some 6, op := Op.index 9 (Operand.tmp 5) (Operand.const (Value.int IntKind.i64 0)), type := 5, pos := "decode.go:26", after := #[{ on := 2, ground := Ground.data }], guard := none }) (v := ?_) rfl (by kernel_rfl) (by kernel_rfl) (by kernel_rfl) (fun _ _ _ h => h) (Or.inl ⟨by rfl, ?_⟩) trivial ?_
  rotate_left
  · intro w _
    go_simp
    try with_reducible rfl
  simp only [Act.put, List.setIfInBounds_toArray, List.set_cons_zero, List.set_cons_succ]
  refine wpAnyH_take (i := 4) (oi := { dst := some 7, op := Op.move (Operand.tmp 0), type := 9, pos := "decode.go:26", after := #[], guard := none }) (v := ?_) rfl (by kernel_rfl) (by kernel_rfl) (by kernel_rfl) (fun _ _ _ h => h) (Or.inl ⟨by rfl, ?_⟩) trivial ?_
  rotate_left
  · intro w _
    go_simp
    try with_reducible rfl
  simp only [Act.put, List.setIfInBounds_toArray, List.set_cons_zero, List.set_cons_succ]
  refine wpAnyH_take (i := 5) (oi := { dst := some 8, op := Op.index 9 (Operand.tmp 7) (Operand.const (Value.int IntKind.i64 1)), type := 5, pos := "decode.go:26", after := #[{ on := 4, ground := Ground.data }], guard := none }) (v := ?_) rfl (by kernel_rfl) (by kernel_rfl) (by kernel_rfl) (fun _ _ _ h => h) (Or.inl ⟨by rfl, ?_⟩) trivial ?_
  rotate_left
  · intro w _
    go_simp
    try with_reducible rfl
  simp only [Act.put, List.setIfInBounds_toArray, List.set_cons_zero, List.set_cons_succ]
  refine wpAnyH_take (i := 7) (oi := { dst := some 10, op := Op.move (Operand.tmp 0), type := 9, pos := "decode.go:26", after := #[], guard := none }) (v := ?_) rfl (by kernel_rfl) (by kernel_rfl) (by kernel_rfl) (fun _ _ _ h => h) (Or.inl ⟨by rfl, ?_⟩) trivial ?_
  rotate_left
  · intro w _
    go_simp
    try with_reducible rfl
  simp only [Act.put, List.setIfInBounds_toArray, List.set_cons_zero, List.set_cons_succ]
  refine wpAnyH_take (i := 8) (oi := { dst := some 11, op := Op.index 9 (Operand.tmp 10) (Operand.const (Value.int IntKind.i64 2)), type := 5, pos := "decode.go:26", after := #[{ on := 7, ground := Ground.data }], guard := none }) (v := ?_) rfl (by kernel_rfl) (by kernel_rfl) (by kernel_rfl) (fun _ _ _ h => h) (Or.inl ⟨by rfl, ?_⟩) trivial ?_
  rotate_left
  · intro w _
    go_simp
    try with_reducible rfl
  simp only [Act.put, List.setIfInBounds_toArray, List.set_cons_zero, List.set_cons_succ]
  refine wpAnyH_take (i := 9) (oi := { dst := some 12, op := Op.convert 5 75 (Operand.tmp 11), type := 75, pos := "decode.go:26", after := #[{ on := 8, ground := Ground.data }], guard := none }) (v := ?_) rfl (by kernel_rfl) (by kernel_rfl) (by kernel_rfl) (fun _ _ _ h => h) (Or.inl ⟨by rfl, ?_⟩) trivial ?_
  rotate_left
  · intro w _
    go_simp
    try with_reducible rfl
  simp only [Act.put, List.setIfInBounds_toArray, List.set_cons_zero, List.set_cons_succ]
  refine wpAnyH_take (i := 10) (oi := { dst := some 13, op := Op.convert 75 3 (Operand.tmp 12), type := 3, pos := "decode.go:26", after := #[{ on := 9, ground := Ground.data }], guard := none }) (v := ?_) rfl (by kernel_rfl) (by kernel_rfl) (by kernel_rfl) (fun _ _ _ h => h) (Or.inl ⟨by rfl, ?_⟩) trivial ?_
  rotate_left
  · intro w _
    go_simp
    try with_reducible rfl
  simp only [Act.put, List.setIfInBounds_toArray, List.set_cons_zero, List.set_cons_succ]
  refine wpAnyH_take (i := 11) (oi := { dst := some 14, op := Op.move (Operand.tmp 0), type := 9, pos := "decode.go:26", after := #[], guard := none }) (v := ?_) rfl (by kernel_rfl) (by kernel_rfl) (by kernel_rfl) (fun _ _ _ h => h) (Or.inl ⟨by rfl, ?_⟩) trivial ?_
  rotate_left
  · intro w _
    go_simp
    try with_reducible rfl
  simp only [Act.put, List.setIfInBounds_toArray, List.set_cons_zero, List.set_cons_succ]
  refine wpAnyH_take (i := 12) (oi := { dst := some 15, op := Op.index 9 (Operand.tmp 14) (Operand.const (Value.int IntKind.i64 3)), type := 5, pos := "decode.go:26", after := #[{ on := 11, ground := Ground.data }], guard := none }) (v := ?_) rfl (by kernel_rfl) (by kernel_rfl) (by kernel_rfl) (fun _ _ _ h => h) (Or.inl ⟨by rfl, ?_⟩) trivial ?_
  rotate_left
  · intro w _
    go_simp
    try with_reducible rfl
  simp only [Act.put, List.setIfInBounds_toArray, List.set_cons_zero, List.set_cons_succ]
  refine wpAnyH_take (i := 13) (oi := { dst := some 16, op := Op.convert 5 3 (Operand.tmp 15), type := 3, pos := "decode.go:26", after := #[{ on := 12, ground := Ground.data }], guard := none }) (v := ?_) rfl (by kernel_rfl) (by kernel_rfl) (by kernel_rfl) (fun _ _ _ h => h) (Or.inl ⟨by rfl, ?_⟩) trivial ?_
  rotate_left
  · intro w _
    go_simp
    try with_reducible rfl
  simp only [Act.put, List.setIfInBounds_toArray, List.set_cons_zero, List.set_cons_succ]
  refine wpAnyH_ready (rs := [6]) (by kernel_rfl) (by simp) ?_
  refine AllReadyH.cons rfl (fun K hK => ?_) AllReadyH.nil
  go_simp
  go_wp2_with (go_at_call 33; refine hc.mono ?_; rintro e w' ⟨rfl, hb⟩)
  have hbx := (hb.block _ (Array.getElem?_eq_some_iff.1 HX0.out).1).trans HX0.out
  have x0 : w'.cell? ⟨w.heap.size, 0, none⟩ = some (.int .u8 0) := (cell_of_row _ _ _ _ _ _ hbx).trans rfl
  have x1 : w'.cell? ⟨w.heap.size, 1, none⟩ = some (.string ⟨#[]⟩) := (cell_of_row _ _ _ _ _ _ hbx).trans rfl
  have x2 : w'.cell? ⟨w.heap.size, 2, none⟩ = some (.int .i64 0) := (cell_of_row _ _ _ _ _ _ hbx).trans rfl
  have x3 : w'.cell? ⟨w.heap.size, 3, none⟩ = some (.int .i64 0) := (cell_of_row _ _ _ _ _ _ hbx).trans rfl
  have fz : ∀ o, w'.frozen? ⟨w.heap.size, o, none⟩ = false := fun o => by simp [World.frozen?, hbx]
  have hlt : w.heap.size < w'.heap.size := (Array.getElem?_eq_some_iff.1 hbx).1
  have HB : Hid (Below w.heap.size w w') := ((belowAl (Below.refl _ _) _).drew).trans (hb.mono (by simp))
  have HBX : Hid (w'.heap[w.heap.size]? = _) := hbx
  clear hb hbx hc
  refine hK.out _ _ trivial (fun _ => ?_)
  clear hK K
  refine wpAnyH_take (i := 14) (oi := { dst := some 17, op := Op.build 25 #[(0, Operand.tmp 4), (1, Operand.tmp 9), (2, Operand.tmp 13), (3, Operand.tmp 16)], type := 25, pos := "decode.go:26", after := #[{ on := 1, ground := Ground.data }, { on := 6, ground := Ground.data }, { on := 10, ground := Ground.data }, { on := 13, ground := Ground.data }], guard := none }) (v := ?_) rfl (by kernel_rfl) (by kernel_rfl) (by kernel_rfl) (fun _ _ _ h => h) (Or.inl ⟨by rfl, ?_⟩) trivial ?_
  rotate_left
  · intro w _
    go_simp
    try with_reducible rfl
  simp only [Act.put, List.setIfInBounds_toArray, List.set_cons_zero, List.set_cons_succ]
  refine wpAnyH_ready (rs := [15]) (by kernel_rfl) (by simp) ?_
  refine AllReadyH.cons rfl (fun K hK => ?_) AllReadyH.nil
  go_simp
  refine hK.out _ _ trivial (fun _ => ?_)
  clear hK K
  refine wpAnyH_done (by kernel_rfl) ?_ _
  go_wp2
  rw [w8 s[2], w64 s[3]]
  have hW : ((((w'.setCell ⟨w.heap.size, 0, none⟩ (.int .u8 s[0].toNat)).setCell ⟨w.heap.size, 1, none⟩ (.string (nameV s[0].toNat s[1].toNat))).setCell ⟨w.heap.size, 2, none⟩ (.int .i64 (sgn s[2].toNat))).setCell ⟨w.heap.size, 3, none⟩ (.int .i64 s[3].toNat)).heap[w.heap.size]? = some (.cells #[.int .u8 s[0].toNat, .string (nameV s[0].toNat s[1].toNat), .int .i64 (sgn s[2].toNat), .int .i64 s[3].toNat] 25 (0, 0)) := by
    rw [heap_setCell_at (heap_setCell_at (heap_setCell_at (heap_setCell_at HBX.out _ _) _ _) _ _) _ _]
    rfl
  refine bodyPost_ret (v := .agg #[.int .u8 s[0].toNat, .string (nameV s[0].toNat s[1].toNat), .int .i64 (sgn s[2].toNat), .int .i64 s[3].toNat]) (results_cell_row Tryd.results18 _ _ w.heap.size 25 _ (0, 0) _ rfl hW Tryd.underlying25 rfl (by kernel_rfl)) rfl ⟨rfl, ?_⟩
  have b4 : ∀ {W : World} (o : Nat) (v : Value), Below w.heap.size w W → Below w.heap.size w (W.setCell ⟨w.heap.size, o, none⟩ v) := fun {W} o v h => ⟨h.os, h.tape, h.output, by simpa [World.setCell] using h.size, fun i hi => (Below.heap_setCell _ _ _ _ (by simp; omega)).trans (h.block i hi)⟩
  exact b4 _ _ (b4 _ _ (b4 _ _ (b4 _ _ HB.out)))
end Go.Proofs.YtdgfjneapialdaaDoor
