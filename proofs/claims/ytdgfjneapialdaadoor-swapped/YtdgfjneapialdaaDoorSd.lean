import Derived.Test.YtdgfjneapialdaaDoorSc
import Derived.BigRegion
import Derived.Maps.RangeWalk
namespace Go.Proofs.YtdgfjneapialdaaDoor
open Go Go.RowKit Go.Maps

def rightCrB (k : Int) (s : ByteArray) (r t ow ph : Int) : Bool :=
  if k = 0 then nameB s && countsB r t && (ow == 0) && (ph == 0)
  else if k = 1 then s.toList.isEmpty && decide (1 ≤ ow) && decide (ph ≤ 2) && (r == 0) && (t == 0) else false

set_option maxHeartbeats 1000000 in
theorem rightToCreate_any (k : Int) (s : ByteArray) (u v r t ow ph : Int) (g : Bool) (w : World) (hs : s.size ≤ maxLen) :
    Calls Tryd.prog 35 #[.agg #[.int .u8 k, .string s, .int .i64 u, .int .i64 v, .int .i64 r, .int .i64 t, .int .i64 ow, .int .u8 ph, .bool g]] w fun e w' => e = .returned (.bool (rightCrB k s r t ow ph)) ∧ Below w.heap.size w w' := by
  unfold rightCrB
  by_cases hk0 : k = 0
  · subst hk0
    rw [if_pos rfl]
    have hc := fun w => rightCounts_any 0 s u v r t ow ph g w
    have hn := fun w => rightName_any s w hs
    clear hs
    generalize countsB r t = b at hc ⊢
    generalize nameB s = a at hn ⊢
    cases a
    · go_enter Tryd.func35, Tryd.ntmps35
      go_wp2_with (go_at_call 47; refine (hn _).mono ?_; rintro e w' ⟨rfl, rfl⟩)
      go_ret
      exact ⟨rfl, (Below.refl _ _).alloc (Nat.le_refl _) _⟩
    · cases b
      · go_enter Tryd.func35, Tryd.ntmps35
        go_wp2_with (first | (go_at_call 47; refine (hn _).mono ?_; rintro e w' ⟨rfl, rfl⟩) | (go_at_call 44; refine (hc _).mono ?_; rintro e w' ⟨rfl, rfl⟩))
        go_ret
        exact ⟨rfl, ((Below.refl _ _).alloc (Nat.le_refl _) _).alloc (by simp) _⟩
      · cases ho : (ow == 0) <;> cases hp : (ph == 0)
        all_goals
          go_enter Tryd.func35, Tryd.ntmps35
          go_wp2_with (first | (go_at_call 47; refine (hn _).mono ?_; rintro e w' ⟨rfl, rfl⟩) | (go_at_call 44; refine (hc _).mono ?_; rintro e w' ⟨rfl, rfl⟩))
          go_ret
          exact ⟨rfl, ((Below.refl _ _).alloc (Nat.le_refl _) _).alloc (by simp) _⟩
  · by_cases hk1 : k = 1
    · subst hk1
      rw [if_neg (by decide), if_pos rfl]
      have hc := fun w => rightPhase_any 1 s u v r t ow ph g w
      generalize decide (ph ≤ 2) = b at hc ⊢
      cases he : s.toList.isEmpty
      · go_enter Tryd.func35, Tryd.ntmps35
        go_wp2
        go_ret
        exact ⟨rfl, (Below.refl _ _).alloc (Nat.le_refl _) _⟩
      · by_cases ho : 1 ≤ ow
        · cases b
          · have hd : decide (1 ≤ ow) = true := by simpa using ho
            rw [hd]
            go_enter Tryd.func35, Tryd.ntmps35
            go_wp2_with (go_at_call 45; refine (hc _).mono ?_; rintro e w' ⟨rfl, rfl⟩)
            go_ret
            exact ⟨rfl, ((Below.refl _ _).alloc (Nat.le_refl _) _).alloc (by simp) _⟩
          · have hd : decide (1 ≤ ow) = true := by simpa using ho
            rw [hd]
            by_cases hr0 : r = 0
            · subst hr0
              by_cases ht0 : t = 0
              · subst ht0
                go_enter Tryd.func35, Tryd.ntmps35
                go_wp2_with (go_at_call 45; refine (hc _).mono ?_; rintro e w' ⟨rfl, rfl⟩)
                go_ret
                exact ⟨rfl, ((Below.refl _ _).alloc (Nat.le_refl _) _).alloc (by simp) _⟩
              · have ht : (t == 0) = false := by simpa using ht0
                clear ht0
                go_enter Tryd.func35, Tryd.ntmps35
                go_wp2_with (go_at_call 45; refine (hc _).mono ?_; rintro e w' ⟨rfl, rfl⟩)
                go_ret
                exact ⟨ret_bool (by simp [ht]), ((Below.refl _ _).alloc (Nat.le_refl _) _).alloc (by simp) _⟩
            · have hr : (r == 0) = false := by simpa using hr0
              clear hr0
              go_enter Tryd.func35, Tryd.ntmps35
              go_wp2_with (go_at_call 45; refine (hc _).mono ?_; rintro e w' ⟨rfl, rfl⟩)
              go_ret
              exact ⟨ret_bool (by simp [hr]), ((Below.refl _ _).alloc (Nat.le_refl _) _).alloc (by simp) _⟩
        · have hd : decide (1 ≤ ow) = false := by simpa using ho
          rw [hd]
          go_enter Tryd.func35, Tryd.ntmps35
          go_wp2
          go_ret
          exact ⟨rfl, (Below.refl _ _).alloc (Nat.le_refl _) _⟩
    · have h0 : (k == 0) = false := by simpa using hk0
      have h1 : (k == 1) = false := by simpa using hk1
      rw [if_neg hk0, if_neg hk1]
      clear hk0 hk1
      go_enter Tryd.func35, Tryd.ntmps35
      go_wp2
      go_ret
      exact ⟨rfl, (Below.refl _ _).alloc (Nat.le_refl _) _⟩

end Go.Proofs.YtdgfjneapialdaaDoor
