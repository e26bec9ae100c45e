import Derived.Test.YtdgfjneapialdaaGreatDoorQj
import Derived.Sort.Grow
import Derived.Deep.RegionWith
namespace Go.Proofs.YtdgfjneapialdaaGreatDoor
open Go Go.RowKit Go.Maps Go.Lib Go.Sort

def orI (a b : Int) : Int := if a = 0 then b else a

set_option maxHeartbeats 400000 in
theorem or_any (b : Nat) (c0 c1 : Int) (w : World) (h0 : w.cell? ⟨b, 0, none⟩ = some (.int .i64 c0)) (h1 : w.cell? ⟨b, 1, none⟩ = some (.int .i64 c1)) :
    Calls Tryz.prog 181 #[.slice (some ⟨b, 0, none⟩) 2 2] w fun e w' => e = .returned (.int .i64 (orI c0 c1)) ∧ w' = w := by
  go_enter Tryz.func181, Tryz.ntmps181
  go_wp2
  go_loop [8] (fun i => ∃ k : Nat, k ≤ 2 ∧ i = .int .i64 k ∧ Hid (0 < k → c0 = 0) ∧ Hid (1 < k → c1 = 0)) (fun i => 2 - (intOf i).toNat)
  case atStart => exact ⟨0, by omega, rfl, fun h => absurd h (by omega), fun h => absurd h (by omega)⟩
  case round =>
    obtain ⟨k, hk, rfl, H0, H1⟩ := hrel
    have hk3 : k = 0 ∨ k = 1 ∨ k = 2 := by omega
    rcases hk3 with rfl | rfl | rfl
    · by_cases hc : c0 = 0
      · have hb : (c0 != 0) = false := by simp [hc]
        have HC : Hid (c0 = 0) := hc
        clear hc
        go_wp2
        go_round
        case rel => exact ⟨1, by omega, rfl, fun _ => HC.out, fun h => absurd h (by omega)⟩
        case measure => simp [intOf]
      · have hb : (c0 != 0) = true := by simp [hc]
        have HC : Hid (c0 ≠ 0) := hc
        clear hc
        go_wp2
        go_ret
        exact ⟨by unfold orI; rw [if_neg HC.out]; rfl, rfl⟩
    · have HC0 : Hid (c0 = 0) := H0.out (by omega)
      by_cases hc : c1 = 0
      · have hb : (c1 != 0) = false := by simp [hc]
        have HC : Hid (c1 = 0) := hc
        clear hc
        go_wp2
        go_round
        case rel => exact ⟨2, by omega, rfl, fun _ => HC0.out, fun _ => HC.out⟩
        case measure => simp [intOf]
      · have hb : (c1 != 0) = true := by simp [hc]
        clear hc
        go_wp2
        go_ret
        exact ⟨by unfold orI; rw [if_pos HC0.out]; rfl, rfl⟩
    · have HC0 : Hid (c0 = 0) := H0.out (by omega)
      have HC1 : Hid (c1 = 0) := H1.out (by omega)
      go_wp2
      go_ret
      exact ⟨by unfold orI; rw [if_pos HC0.out, HC1.out]; rfl, rfl⟩

set_option maxHeartbeats 4000000 in
theorem inOrder_any (x : ByteArray) (a : Int) (y : ByteArray) (b : Int) (W : World) :
    Calls Tryz.prog 138 #[.agg #[.string x, .int .i64 a], .agg #[.string y, .int .i64 b]] W fun e w' => e = .returned (.int .i64 (orI (Lib.compareInt a b) (Lib.compareBytes x.data.toList y.data.toList))) ∧ ∃ q os', w' = grow (W.drewN q) os' := by
  have h41 := fun W => Tryz.cmp_Compare_int a b W
  have h42 := fun W => Tryz.strings_Compare x y W
  generalize Lib.compareInt a b = c0 at *
  generalize Lib.compareBytes x.data.toList y.data.toList = c1 at *
  have h40 : Calls Tryz.prog 181 #[.slice (some ⟨W.heap.size + 1 + 1, 0, none⟩) 2 2] (((W.alloc (.cells #[.string x, .int .i64 a] 119)).alloc (.cells #[.string y, .int .i64 b] 119)).alloc (.cells #[.int .i64 c0, .int .i64 c1] 3)).drew fun e w' => e = .returned (.int .i64 (orI c0 c1)) ∧ w' = (((W.alloc (.cells #[.string x, .int .i64 a] 119)).alloc (.cells #[.string y, .int .i64 b] 119)).alloc (.cells #[.int .i64 c0, .int .i64 c1] 3)).drew := by
    have hb := (MapKept.heap_alloc ((W.alloc (.cells #[.string x, .int .i64 a] 119)).alloc (.cells #[.string y, .int .i64 b] 119)) (.cells #[.int .i64 c0, .int .i64 c1] 3)).1
    simp only [World.size_alloc] at hb
    exact or_any (W.heap.size + 1 + 1) c0 c1 _ (by show World.cell? (((W.alloc (.cells #[.string x, .int .i64 a] 119)).alloc (.cells #[.string y, .int .i64 b] 119)).alloc (.cells #[.int .i64 c0, .int .i64 c1] 3)) _ = _; simp only [World.cell?, hb]; rfl) (by show World.cell? (((W.alloc (.cells #[.string x, .int .i64 a] 119)).alloc (.cells #[.string y, .int .i64 b] 119)).alloc (.cells #[.int .i64 c0, .int .i64 c1] 3)) _ = _; simp only [World.cell?, hb]; rfl)
  go_enter Tryz.func138, Tryz.ntmps138
  go_wp2_with fail
  go_region_with (first
    | (go_at_call 107; refine (h41 _).mono ?_; rintro e w' ⟨rfl, rfl⟩)
    | (go_at_call 167; refine (h42 _).mono ?_; rintro e w' ⟨rfl, rfl⟩)
    | (go_at_call 181; refine h40.mono ?_; rintro e w' ⟨rfl, rfl⟩))
  all_goals (go_wp2; go_ret; exact ⟨rfl, 1, _, by rw [alloc_eq_grow, alloc_eq_grow, alloc_eq_grow, grow_grow, grow_grow]; rfl⟩)

end Go.Proofs.YtdgfjneapialdaaGreatDoor
