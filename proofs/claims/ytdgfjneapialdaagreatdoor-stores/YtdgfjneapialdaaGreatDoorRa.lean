import Derived.Test.YtdgfjneapialdaaGreatDoorSy
namespace Go.Proofs.YtdgfjneapialdaaGreatDoor.S
open Go Go.RowKit Go.Maps

set_option maxHeartbeats 400000 in
theorem letters_any (s : ByteArray) (w : World) (hs : s.size ≤ maxLen) :
    Calls Tryz.prog 115 #[.string s] w fun e w' => e = .returned (.bool (nameB s)) ∧ w' = w := by
  unfold maxLen at hs
  have HB : Hid (nameB s = (decide (1 ≤ s.size) && decide (s.size ≤ 8) && nameTo s.data.toList)) := rfl
  go_enter Tryz.func115, Tryz.ntmps115
  go_wp2
  go_loop [3] (fun i => ∃ k : Nat, k ≤ s.size ∧ i = .int .i64 k ∧ nameTo (s.data.toList.take k) = true) (fun i => s.size - (intOf i).toNat)
  case atStart => exact ⟨0, Nat.zero_le _, rfl, rfl⟩
  case round =>
    obtain ⟨k, hk, rfl, hn⟩ := hrel
    by_cases hlt : k < s.size
    · have H1 := nameTo_take_succ s k hlt
      have H2 := nameTo_bad s k hlt
      rw [hn, Bool.true_and] at H1
      have H3 : Hid (nameTo (s.data.toList.take (k + 1)) = (decide (97 ≤ (s[k].toNat : Int)) && decide ((s[k].toNat : Int) ≤ 122))) := H1
      have H4 : Hid ((decide (97 ≤ (s[k].toNat : Int)) && decide ((s[k].toNat : Int) ≤ 122)) = false → nameTo s.data.toList = false) := H2
      clear H1 H2 hn
      by_cases hlo : (s[k].toNat : Int) < 97
      · go_wp2
        go_ret
        exact ⟨ret_bool (by rw [HB.out, H4.out (by simp; omega), Bool.and_false]), rfl⟩
      · have hlo' : decide ((s[k].toNat : Int) < 97) = false := by simpa using hlo
        by_cases hhi : 122 < (s[k].toNat : Int)
        · go_wp2
          go_ret
          exact ⟨ret_bool (by rw [HB.out, H4.out (by simp; omega), Bool.and_false]), rfl⟩
        · have hhi' : decide (122 < (s[k].toNat : Int)) = false := by simpa using hhi
          go_wp2
          go_round
          case rel => exact ⟨k + 1, by omega, by go_num, by rw [H3.out]; simp; omega⟩
          case measure => simp [intOf]; omega
    · have H5 : Hid (nameTo s.data.toList = true) := nameTo_whole s k hlt hn
      clear hn
      by_cases h0 : 0 < (s.size : Int)
      · have hd : decide (0 < (s.size : Int)) = true := by simpa using h0
        go_wp2
        go_ret
        exact ⟨ret_bool (by rw [HB.out, H5.out, Bool.and_true, show decide (1 ≤ s.size) = true from decide_eq_true (by omega), Bool.true_and]; exact decide_eq_decide.2 (by omega)), rfl⟩
      · have hd : decide (0 < (s.size : Int)) = false := by simpa using h0
        go_wp2
        go_ret
        exact ⟨ret_bool (by rw [HB.out, show decide (1 ≤ s.size) = false from decide_eq_false (by omega), Bool.false_and, Bool.false_and]), rfl⟩

set_option maxHeartbeats 400000 in
theorem numbers_any (k : Int) (s : ByteArray) (u v r t ow ph : Int) (g : Bool) (w : World) :
    Calls Tryz.prog 116 #[.agg #[.int .u8 k, .string s, .int .i64 u, .int .i64 v, .int .i64 r, .int .i64 t, .int .i64 ow, .int .u8 ph, .bool g]] w fun e w' => e = .returned (.bool (countsB r t)) ∧ Below w.heap.size w w' := by
  have hb : countsB r t = (decide (0 ≤ r) && decide (r ≤ 8) && decide (0 ≤ t) && decide (t ≤ 64)) := rfl
  rw [hb]
  clear hb
  cases h1 : decide (0 ≤ r)
  · go_enter Tryz.func116, Tryz.ntmps116
    go_wp2
    go_ret
    exact ⟨rfl, (Below.refl _ _).alloc (Nat.le_refl _) _⟩
  · cases h2 : decide (r ≤ 8)
    · go_enter Tryz.func116, Tryz.ntmps116
      go_wp2
      go_ret
      exact ⟨rfl, (Below.refl _ _).alloc (Nat.le_refl _) _⟩
    · cases h3 : decide (0 ≤ t)
      · go_enter Tryz.func116, Tryz.ntmps116
        go_wp2
        go_ret
        exact ⟨rfl, (Below.refl _ _).alloc (Nat.le_refl _) _⟩
      · go_enter Tryz.func116, Tryz.ntmps116
        go_wp2
        go_ret
        exact ⟨rfl, (Below.refl _ _).alloc (Nat.le_refl _) _⟩

end Go.Proofs.YtdgfjneapialdaaGreatDoor.S
