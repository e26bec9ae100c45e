import Derived.Test.YtdgfjneapialdaaGreatDoorSx
namespace Go.Proofs.YtdgfjneapialdaaGreatDoor.S
open Go Go.RowKit Go.Maps

def zev : List Value := [.int .u8 0, .int .u8 0, .string ⟨#[]⟩, .int .i64 0, .int .i64 0, .int .i64 0, .int .i64 0, .int .i64 0, .int .u8 0, .bool false]
def zlog : List Value := zev ++ (zev ++ (zev ++ (zev ++ (zev ++ (zev ++ (zev ++ (zev ++ (zev ++ (zev ++ (zev ++ (zev ++ (zev ++ (zev ++ (zev ++ zev))))))))))))))

set_option maxRecDepth 100000 in
set_option maxHeartbeats 1000000 in
theorem new_ok (lim : Int) (w : World) (h0 : 1 ≤ lim) (h1 : lim ≤ 64) :
    Calls Tryz.prog 42 #[.int .i64 lim] w fun e w' => e = .returned (.tuple #[.pointer (some ⟨w.heap.size + 1, 0, none⟩), .int .i64 0]) ∧ IsStore w' (w.heap.size + 1) w.heap.size lim 0 0 zlog 0 (.map []) ∧ Below w.heap.size w w' := by
  have hmm := @run_makeMap Tryz.prog
  have hl : decide (lim < 1) = false := by simp; omega
  have hl2 : decide (64 < lim) = false := by simp; omega
  go_enter Tryz.func42, Tryz.ntmps42
  go_wp2
  go_ret2
  refine ⟨rfl, ⟨?_, rfl, ?_⟩, ?_⟩
  · have := alloc_last (w.alloc (.map #[] 0)) (.cells (storeArr lim 0 0 w.heap.size zlog) 173)
    simp only [World.size_alloc] at this
    exact this
  · exact (World.ownsMap_made w Tryz.prog 167 objR).alloc _
  · exact belowAl (belowAl (Below.refl _ _) _) _

end Go.Proofs.YtdgfjneapialdaaGreatDoor.S
