import Derived.Test.YtdgfjneapialdaaDoorSb
namespace Go.Proofs.YtdgfjneapialdaaDoor
open Go Go.RowKit

def nameTo (l : List UInt8) : Bool := l.all fun c => decide (97 ≤ (c.toNat : Int)) && decide ((c.toNat : Int) ≤ 122)
def nameB (s : ByteArray) : Bool := decide (1 ≤ s.size) && decide (s.size ≤ 8) && nameTo s.data.toList

theorem take_snoc (s : ByteArray) (k : Nat) (h : k < s.size) : s.data.toList.take (k + 1) = s.data.toList.take k ++ [s[k]] := by
  rw [List.take_succ_eq_append_getElem (by simpa using h)]; rfl
theorem nameTo_take_succ (s : ByteArray) (k : Nat) (h : k < s.size) : nameTo (s.data.toList.take (k + 1)) = (nameTo (s.data.toList.take k) && (decide (97 ≤ (s[k].toNat : Int)) && decide ((s[k].toNat : Int) ≤ 122))) := by
  rw [take_snoc s k h]; unfold nameTo; rw [List.all_append]; simp
theorem nameTo_bad (s : ByteArray) (k : Nat) (h : k < s.size) (hb : (decide (97 ≤ (s[k].toNat : Int)) && decide ((s[k].toNat : Int) ≤ 122)) = false) : nameTo s.data.toList = false := by
  have e : s.data.toList = s.data.toList.take (k + 1) ++ s.data.toList.drop (k + 1) := (List.take_append_drop _ _).symm
  have h1 := nameTo_take_succ s k h
  rw [hb, Bool.and_false] at h1
  rw [e]; unfold nameTo at *; rw [List.all_append, h1, Bool.false_and]
theorem nameTo_whole (s : ByteArray) (k : Nat) (h : ¬ k < s.size) (hk : nameTo (s.data.toList.take k) = true) : nameTo s.data.toList = true := by
  rw [List.take_of_length_le (by simp; omega)] at hk; exact hk

set_option maxHeartbeats 400000 in
theorem rightName_any (s : ByteArray) (w : World) (hs : s.size ≤ maxLen) :
    Calls Tryd.prog 47 #[.string s] w fun e w' => e = .returned (.bool (nameB s)) ∧ w' = w := by
  unfold maxLen at hs
  by_cases h1 : s.size < 1
  · have hb : nameB s = false := by unfold nameB; simp; omega
    rw [hb]
    have h1' : (s.size : Int) < 1 := by omega
    go_enter Tryd.func47, Tryd.ntmps47
    go_wp2
    go_ret
    exact ⟨rfl, rfl⟩
  · by_cases h2 : 8 < s.size
    · have hb : nameB s = false := by unfold nameB; simp; omega
      rw [hb]
      have h1' : ¬ (s.size : Int) < 1 := by omega
      have h2' : 8 < (s.size : Int) := by omega
      go_enter Tryd.func47, Tryd.ntmps47
      go_wp2
      go_ret
      exact ⟨rfl, rfl⟩
    · have hb : nameB s = nameTo s.data.toList := by unfold nameB; simp [show 1 ≤ s.size by omega, show s.size ≤ 8 by omega]
      rw [hb]
      clear hb
      have h1' : ¬ (s.size : Int) < 1 := by omega
      have h2' : ¬ 8 < (s.size : Int) := by omega
      have hd1 : decide ((s.size : Int) < 1) = false := by simpa using h1'
      have hd2 : decide (8 < (s.size : Int)) = false := by simpa using h2'
      go_enter Tryd.func47, Tryd.ntmps47
      go_wp2
      go_loop [14] (fun i => ∃ k : Nat, k ≤ s.size ∧ i = .int .i64 k ∧ nameTo (s.data.toList.take k) = true) (fun i => s.size - (intOf i).toNat)
      case atStart => exact ⟨0, Nat.zero_le _, rfl, rfl⟩
      case round =>
        obtain ⟨k, hk, rfl, hn⟩ := hrel
        by_cases hlt : k < s.size
        · have H1 := nameTo_take_succ s k hlt
          have H2 := nameTo_bad s k hlt
          rw [hn, Bool.true_and] at H1
          have H3 : Hid (nameTo (s.data.toList.take (k + 1)) = (decide (97 ≤ (s[k].toNat : Int)) && decide ((s[k].toNat : Int) ≤ 122))) := H1
          have H4 : Hid ((decide (97 ≤ (s[k].toNat : Int)) && decide ((s[k].toNat : Int) ≤ 122)) = false → nameTo s.data.toList = false) := H2
          clear H1 H2 hn
          by_cases hlo : (s[k].toNat : Int) < 97
          · go_wp2
            go_ret
            exact ⟨ret_bool (by rw [H4.out (by simp; omega)]), rfl⟩
          · have hlo' : decide ((s[k].toNat : Int) < 97) = false := by simpa using hlo
            by_cases hhi : 122 < (s[k].toNat : Int)
            · go_wp2
              go_ret
              exact ⟨ret_bool (by rw [H4.out (by simp; omega)]), rfl⟩
            · have hhi' : decide (122 < (s[k].toNat : Int)) = false := by simpa using hhi
              go_wp2
              go_round
              case rel => exact ⟨k + 1, by omega, by go_num, by rw [H3.out]; simp; omega⟩
              case measure => simp [intOf]; omega
        · have H5 : Hid (nameTo s.data.toList = true) := nameTo_whole s k hlt hn
          clear hn
          go_wp2
          go_ret
          exact ⟨ret_bool H5.out.symm, rfl⟩

end Go.Proofs.YtdgfjneapialdaaDoor
