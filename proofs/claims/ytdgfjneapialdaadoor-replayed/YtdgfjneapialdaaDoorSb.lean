import Derived.Test.YtdgfjneapialdaaDoorSa
namespace Go.Proofs.YtdgfjneapialdaaDoor
open Go Go.RowKit

set_option maxHeartbeats 400000 in
theorem rightPhase_any (k : Int) (s : ByteArray) (u v r t ow ph : Int) (g : Bool) (w : World) :
    Calls Tryd.prog 45 #[.agg #[.int .u8 k, .string s, .int .i64 u, .int .i64 v, .int .i64 r, .int .i64 t, .int .i64 ow, .int .u8 ph, .bool g]] w fun e w' => e = .returned (.bool (decide (ph ≤ 2))) ∧ w' = w.alloc (.cells #[.int .u8 k, .string s, .int .i64 u, .int .i64 v, .int .i64 r, .int .i64 t, .int .i64 ow, .int .u8 ph, .bool g] 36) := by
  go_enter Tryd.func45, Tryd.ntmps45
  go_wp2
  go_ret
  exact ⟨rfl, rfl⟩

def countsB (r t : Int) : Bool := decide (0 ≤ r) && decide (r ≤ 8) && decide (0 ≤ t) && decide (t ≤ 64)

set_option maxHeartbeats 400000 in
theorem rightCounts_any (k : Int) (s : ByteArray) (u v r t ow ph : Int) (g : Bool) (w : World) :
    Calls Tryd.prog 44 #[.agg #[.int .u8 k, .string s, .int .i64 u, .int .i64 v, .int .i64 r, .int .i64 t, .int .i64 ow, .int .u8 ph, .bool g]] w fun e w' => e = .returned (.bool (countsB r t)) ∧ w' = w.alloc (.cells #[.int .u8 k, .string s, .int .i64 u, .int .i64 v, .int .i64 r, .int .i64 t, .int .i64 ow, .int .u8 ph, .bool g] 36) := by
  have H : Hid (countsB r t = (decide (0 ≤ r) && decide (r ≤ 8) && decide (0 ≤ t) && decide (t ≤ 64))) := rfl
  by_cases h1 : 0 ≤ r
  · by_cases h2 : r ≤ 8
    · by_cases h3 : 0 ≤ t
      · go_enter Tryd.func44, Tryd.ntmps44
        go_wp2
        go_ret
        exact ⟨ret_bool (by rw [H.out]; simp [h1, h2, h3]), rfl⟩
      · have h3' : decide (0 ≤ t) = false := by simpa using h3
        go_enter Tryd.func44, Tryd.ntmps44
        go_wp2
        go_ret
        exact ⟨ret_bool (by rw [H.out, h3']; simp), rfl⟩
    · have h2' : decide (r ≤ 8) = false := by simpa using h2
      go_enter Tryd.func44, Tryd.ntmps44
      go_wp2
      go_ret
      exact ⟨ret_bool (by rw [H.out, h2']; simp), rfl⟩
  · have h1' : decide (0 ≤ r) = false := by simpa using h1
    go_enter Tryd.func44, Tryd.ntmps44
    go_wp2
    go_ret
    exact ⟨ret_bool (by rw [H.out, h1']; simp), rfl⟩

def rightUpB (k r t ph : Int) : Bool := if k = 0 then countsB r t else if k = 1 then decide (ph ≤ 2) else false

set_option maxHeartbeats 400000 in
theorem rightToUpdate_any (k : Int) (s : ByteArray) (u v r t ow ph : Int) (g : Bool) (w : World) :
    Calls Tryd.prog 29 #[.agg #[.int .u8 k, .string s, .int .i64 u, .int .i64 v, .int .i64 r, .int .i64 t, .int .i64 ow, .int .u8 ph, .bool g]] w fun e w' => e = .returned (.bool (rightUpB k r t ph)) ∧ Below w.heap.size w w' := by
  unfold rightUpB
  by_cases hk0 : k = 0
  · subst hk0
    have hc := fun w => rightCounts_any 0 s u v r t ow ph g w
    generalize countsB r t = b at hc ⊢
    go_enter Tryd.func29, Tryd.ntmps29
    go_wp2_with (go_at_call 44; refine (hc _).mono ?_; rintro e w' ⟨rfl, rfl⟩)
    go_ret
    exact ⟨rfl, ((Below.refl _ _).alloc (Nat.le_refl _) _).alloc (by simp) _⟩
  · by_cases hk1 : k = 1
    · subst hk1
      have hc := fun w => rightPhase_any 1 s u v r t ow ph g w
      generalize decide (ph ≤ 2) = b at hc ⊢
      go_enter Tryd.func29, Tryd.ntmps29
      go_wp2_with (go_at_call 45; refine (hc _).mono ?_; rintro e w' ⟨rfl, rfl⟩)
      go_ret
      exact ⟨rfl, ((Below.refl _ _).alloc (Nat.le_refl _) _).alloc (by simp) _⟩
    · have h0 : (k == 0) = false := by simpa using hk0
      have h1 : (k == 1) = false := by simpa using hk1
      rw [if_neg hk0, if_neg hk1]
      clear hk0 hk1
      go_enter Tryd.func29, Tryd.ntmps29
      go_wp2
      go_ret
      exact ⟨rfl, (Below.refl _ _).alloc (Nat.le_refl _) _⟩

end Go.Proofs.YtdgfjneapialdaaDoor
