import Derived.Test.YtdgfjneapialdaaGreatDoorRb
namespace Go.Proofs.YtdgfjneapialdaaGreatDoor.S
open Go Go.RowKit Go.Maps

theorem below_two (w : World) (o o' : Obj) : Below w.heap.size w ((w.alloc o).alloc o') := belowAl' (belowAl' (Below.refl _ _) _) _

set_option maxHeartbeats 400000 in
theorem ahead_kinds (x0 : Int) (x1 : ByteArray) (x2 x3 x4 x5 x6 x7 : Int) (x8 : Bool) (y0 : Int) (y1 : ByteArray) (y2 y3 y4 y5 y6 y7 : Int) (y8 : Bool) (w : World) (h : x0 ≠ y0) :
    Calls Tryz.prog 149 #[.agg #[.int .u8 x0, .string x1, .int .i64 x2, .int .i64 x3, .int .i64 x4, .int .i64 x5, .int .i64 x6, .int .u8 x7, .bool x8], .agg #[.int .u8 y0, .string y1, .int .i64 y2, .int .i64 y3, .int .i64 y4, .int .i64 y5, .int .i64 y6, .int .u8 y7, .bool y8]] w fun e w' => e = .returned (.bool (decide (x0 < y0))) ∧ Below w.heap.size w w' := by
  have hb : (x0 != y0) = true := by simp [h]
  clear h
  go_enter Tryz.func149, Tryz.ntmps149
  go_wp2
  go_ret
  exact ⟨rfl, below_two w _ _⟩

set_option maxHeartbeats 400000 in
theorem ahead_pods (x1 : ByteArray) (x2 x3 x4 x5 x6 x7 : Int) (x8 : Bool) (y1 : ByteArray) (y2 y3 y4 y5 y6 y7 : Int) (y8 : Bool) (w : World) :
    Calls Tryz.prog 149 #[.agg #[.int .u8 1, .string x1, .int .i64 x2, .int .i64 x3, .int .i64 x4, .int .i64 x5, .int .i64 x6, .int .u8 x7, .bool x8], .agg #[.int .u8 1, .string y1, .int .i64 y2, .int .i64 y3, .int .i64 y4, .int .i64 y5, .int .i64 y6, .int .u8 y7, .bool y8]] w fun e w' => e = .returned (.bool (decide (x2 < y2))) ∧ Below w.heap.size w w' := by
  go_enter Tryz.func149, Tryz.ntmps149
  go_wp2
  go_ret
  exact ⟨rfl, below_two w _ _⟩

set_option maxHeartbeats 400000 in
theorem ahead_sets (x1 : ByteArray) (x2 x3 x4 x5 x6 x7 : Int) (x8 : Bool) (y1 : ByteArray) (y2 y3 y4 y5 y6 y7 : Int) (y8 : Bool) (w : World) :
    Calls Tryz.prog 149 #[.agg #[.int .u8 0, .string x1, .int .i64 x2, .int .i64 x3, .int .i64 x4, .int .i64 x5, .int .i64 x6, .int .u8 x7, .bool x8], .agg #[.int .u8 0, .string y1, .int .i64 y2, .int .i64 y3, .int .i64 y4, .int .i64 y5, .int .i64 y6, .int .u8 y7, .bool y8]] w fun e w' => e = .returned (.bool (decide (x1.toList < y1.toList))) ∧ Below w.heap.size w w' := by
  go_enter Tryz.func149, Tryz.ntmps149
  go_wp2
  go_ret
  exact ⟨ret_bool (bytesLess_eq _ _), below_two w _ _⟩

end Go.Proofs.YtdgfjneapialdaaGreatDoor.S
