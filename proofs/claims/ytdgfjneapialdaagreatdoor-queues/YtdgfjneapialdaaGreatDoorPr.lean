import Derived.Test.YtdgfjneapialdaaGreatDoorPn
import Derived.Deep.QuietTactic
import Derived.BigQuiet
namespace Go.Proofs.YtdgfjneapialdaaGreatDoor
open Go Go.RowKit Go.Maps Go.Lib Go.Sort

/-- pick: which of n things the raw number c speaks of. -/
def pickI (c n : Int) : Int := (if c < 0 then -(c + 1) else c) % n
theorem pickI_bd (c n : Int) (hn : 0 < n) : 0 ≤ pickI c n ∧ pickI c n < n := by
  unfold pickI
  exact ⟨Int.emod_nonneg _ (by omega), Int.emod_lt_of_pos _ hn⟩
theorem neg_tmod_eq (c n : Int) (hc : c < 0) : -((c + 1).tmod n) = (-(c + 1)) % n := by
  rw [← Int.neg_tmod, Int.tmod_eq_emod_of_nonneg (by omega)]

set_option maxHeartbeats 400000 in
theorem pick_any (c n : Int) (w : World) (h0 : -9223372036854775808 ≤ c) (h1 : c ≤ 9223372036854775807) (hn : 0 < n) (hn2 : n ≤ 9223372036854775807) :
    Calls Tryz.prog 47 #[.int .i64 c, .int .i64 n] w fun e w' => e = .returned (.int .i64 (pickI c n)) ∧ w' = w := by
  unfold pickI
  by_cases hc : c < 0
  · rw [if_pos hc]
    have H : Hid (-((c + 1).tmod n) = (-(c + 1)) % n) := neg_tmod_eq c n hc
    go_enter Tryz.func47, Tryz.ntmps47
    go_wp2
    go_ret
    exact ⟨ret_int H.out, rfl⟩
  · rw [if_neg hc]
    go_enter Tryz.func47, Tryz.ntmps47
    go_wp2
    go_ret
    exact ⟨rfl, rfl⟩

set_option maxRecDepth 100000 in
set_option maxHeartbeats 400000 in
/-- sameWords, where both rows hold the same. -/
theorem sameWords_any {w : World} {base1 base2 : Nat} {v1 v2 : Value} {l : List ByteArray} (h1 : w.ownsRow base1 9 1 v1 l.length (l.map Value.string)) (h2 : w.ownsRow base2 9 1 v2 l.length (l.map Value.string)) (hl : l.length ≤ 2000000000000) :
    Calls Tryz.prog 140 #[v1, v2] w fun e w' => e = .returned (.bool true) ∧ ∃ n, w' = w.drewN n := by
  obtain ⟨ad1, cap1, rfl, had1⟩ := row_form1 h1
  obtain ⟨ad2, cap2, rfl, had2⟩ := row_form1 h2
  have HA1 : Hid (0 < l.length → ∃ g, ad1 = some ⟨g, 0, none⟩ ∧ g < w.heap.size ∧ ∀ j (hj : j < l.length), w.cell? ⟨g, j, none⟩ = some (.string l[j])) := had1
  have HA2 : Hid (0 < l.length → ∃ g, ad2 = some ⟨g, 0, none⟩ ∧ g < w.heap.size ∧ ∀ j (hj : j < l.length), w.cell? ⟨g, j, none⟩ = some (.string l[j])) := had2
  clear h1 h2 had1 had2
  go_enter Tryz.func140, Tryz.ntmps140
  go_wp2
  go_loopw [5] (fun i wr => ∃ (k n : Nat), k ≤ l.length ∧ i = .int .i64 k ∧ wr = w.drewN n) (fun i _ => l.length - (intOf i).toNat)
  case atStart => exact ⟨0, 0, Nat.zero_le _, rfl, rfl⟩
  case round =>
    obtain ⟨k, n, hk, rfl, rfl⟩ := hrel
    by_cases hlt : k < l.length
    · obtain ⟨g1, e1, hg1, hc1⟩ := HA1.out (by omega)
      obtain ⟨g2, e2, hg2, hc2⟩ := HA2.out (by omega)
      subst e1 e2
      have p1 : w.cell? ⟨g1, k, none⟩ = some (.string l[k]) := hc1 k hlt
      have p2 : w.cell? ⟨g2, k, none⟩ = some (.string l[k]) := hc2 k hlt
      obtain ⟨x, hx⟩ : ∃ x, x = l[k] := ⟨_, rfl⟩
      rw [← hx] at p1 p2
      have hne : (x.toList == x.toList) = true := by simp
      clear hx hc1 hc2 HA1 HA2
      go_wp2_with fail
      go_quiet (fail)
      go_wp2
      go_roundw
      case rel => exact ⟨k + 1, _, by omega, by simp, rfl⟩
      case measure => simp [intOf]; omega
    · have hkl : k = l.length := by omega
      subst hkl
      have hlt2 : ¬ ((l.length : Int) < (l.length : Int)) := by omega
      clear HA1 HA2
      go_wp2
      go_ret
      exact ⟨rfl, n, rfl⟩

theorem neq84 (x : ByteArray) (c : Int) (w : World) : Sem.run Tryz.prog (binOp .neq 119 (.agg #[.string x, .int .i64 c]) (.agg #[.string x, .int .i64 c])) w = .ok (.bool false) w := by
  have u3 := Tryz.underlying3
  have a3 := Tryz.isAgg3
  have z3 := Tryz.sizeOf3
  have u9 := Tryz.underlying9
  have a9 := Tryz.isAgg9
  have z9 := Tryz.sizeOf9
  have hS : Tryz.prog.underlying 119 = some (.struct (Tryz.prog.fieldsOf 119)) := by kernel_rfl
  have hp : Tryz.prog.stoodInHeld 119 = false := by kernel_rfl
  rw [run_neq_struct, show (10000 : Nat) = 9999 + 1 from rfl, run_equalIn_agg w 9999 119 _ _ hS hp]
  clear hS
  simp only [Program.fieldsOf, Tryz.underlying119]
  go_simp
theorem guard84 (op : BinOp) (a b : Operand) (x y : Array Value) (w : World) : (eqGuard op 119 a b (.agg x) (.agg y)).run Tryz.prog w = .ok () w := run_eqGuard_agg w op 119 a b x y (by kernel_rfl)

set_option maxRecDepth 100000 in
set_option maxHeartbeats 400000 in
/-- sameDues, where both rows hold the same. -/
theorem sameDues_any {w : World} {base1 base2 : Nat} {v1 v2 : Value} {l : List Dk} (h1 : w.ownsRow base1 119 2 v1 l.length (flatD l)) (h2 : w.ownsRow base2 119 2 v2 l.length (flatD l)) (hl : l.length ≤ 2000000000000) :
    Calls Tryz.prog 141 #[v1, v2] w fun e w' => e = .returned (.bool true) ∧ ∃ n, w' = w.drewN n := by
  obtain ⟨ad1, cap1, rfl, _, had1⟩ := row_form2 h1
  obtain ⟨ad2, cap2, rfl, _, had2⟩ := row_form2 h2
  have HA1 : Hid (0 < l.length → ∃ g, ad1 = some ⟨g, 0, none⟩ ∧ g < w.heap.size ∧ ∀ j (hj : j < l.length), w.cell? ⟨g, j * 2, none⟩ = some (.string (bk l[j].1)) ∧ w.cell? ⟨g, j * 2 + 1, none⟩ = some (.int .i64 l[j].2)) := had1
  have HA2 : Hid (0 < l.length → ∃ g, ad2 = some ⟨g, 0, none⟩ ∧ g < w.heap.size ∧ ∀ j (hj : j < l.length), w.cell? ⟨g, j * 2, none⟩ = some (.string (bk l[j].1)) ∧ w.cell? ⟨g, j * 2 + 1, none⟩ = some (.int .i64 l[j].2)) := had2
  clear h1 h2 had1 had2
  go_enter Tryz.func141, Tryz.ntmps141
  go_wp2
  go_loopw [5] (fun i wr => ∃ (k n : Nat), k ≤ l.length ∧ i = .int .i64 k ∧ wr = w.drewN n) (fun i _ => l.length - (intOf i).toNat)
  case atStart => exact ⟨0, 0, Nat.zero_le _, rfl, rfl⟩
  case round =>
    obtain ⟨k, n, hk, rfl, rfl⟩ := hrel
    by_cases hlt : k < l.length
    · obtain ⟨g1, e1, hg1, hc1⟩ := HA1.out (by omega)
      obtain ⟨g2, e2, hg2, hc2⟩ := HA2.out (by omega)
      subst e1 e2
      have p0 : w.cell? ⟨g1, k * 2, none⟩ = some (.string (bk l[k].1)) := (hc1 k hlt).1
      have p1 : w.cell? ⟨g1, k * 2 + 1, none⟩ = some (.int .i64 l[k].2) := (hc1 k hlt).2
      have q0 : w.cell? ⟨g2, k * 2, none⟩ = some (.string (bk l[k].1)) := (hc2 k hlt).1
      have q1 : w.cell? ⟨g2, k * 2 + 1, none⟩ = some (.int .i64 l[k].2) := (hc2 k hlt).2
      obtain ⟨x, hx⟩ : ∃ x, x = bk l[k].1 := ⟨_, rfl⟩
      obtain ⟨c, hc⟩ : ∃ c, c = l[k].2 := ⟨_, rfl⟩
      rw [← hx] at p0 q0
      rw [← hc] at p1 q1
      have hq := neq84 x c
      have hg := guard84
      clear hx hc hc1 hc2 HA1 HA2
      go_wp2_with fail
      go_quiet (fail)
      go_wp2
      go_roundw
      case rel => exact ⟨k + 1, _, by omega, by simp, rfl⟩
      case measure => simp [intOf]; omega
    · have hkl : k = l.length := by omega
      subst hkl
      have hlt2 : ¬ ((l.length : Int) < (l.length : Int)) := by omega
      clear HA1 HA2
      go_wp2
      go_ret
      exact ⟨rfl, n, rfl⟩

end Go.Proofs.YtdgfjneapialdaaGreatDoor
