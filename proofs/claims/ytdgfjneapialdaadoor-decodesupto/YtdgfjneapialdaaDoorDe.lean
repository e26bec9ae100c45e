import Derived.Test.YtdgfjneapialdaaDoorDc
namespace Go.Proofs.YtdgfjneapialdaaDoor
open Go Go.RowKit Go.Maps Go.Lib Go.Sort

theorem neq25 (k : Int) (x : ByteArray) (n v : Int) (w : World) : Sem.run Tryd.prog (binOp .neq 25 (.agg #[.int .u8 k, .string x, .int .i64 n, .int .i64 v]) (.agg #[.int .u8 k, .string x, .int .i64 n, .int .i64 v])) w = .ok (.bool false) w := by
  have u3 := Tryd.underlying3
  have a3 := Tryd.isAgg3
  have z3 := Tryd.sizeOf3
  have u9 := Tryd.underlying9
  have a9 := Tryd.isAgg9
  have z9 := Tryd.sizeOf9
  have u5 := Tryd.underlying5
  have a5 := Tryd.isAgg5
  have z5 := Tryd.sizeOf5
  have hS : Tryd.prog.underlying 25 = some (.struct (Tryd.prog.fieldsOf 25)) := by kernel_rfl
  have hp : Tryd.prog.stoodInHeld 25 = false := by kernel_rfl
  rw [run_neq_struct, show (10000 : Nat) = 9999 + 1 from rfl, run_equalIn_agg w 9999 25 _ _ hS hp]
  clear hS
  simp only [Program.fieldsOf, Tryd.underlying25]
  go_simp
theorem eql25 (k : Int) (x : ByteArray) (n v : Int) (w : World) : Sem.run Tryd.prog (binOp .eql 25 (.agg #[.int .u8 k, .string x, .int .i64 n, .int .i64 v]) (.agg #[.int .u8 k, .string x, .int .i64 n, .int .i64 v])) w = .ok (.bool true) w := by
  have u3 := Tryd.underlying3
  have a3 := Tryd.isAgg3
  have z3 := Tryd.sizeOf3
  have u9 := Tryd.underlying9
  have a9 := Tryd.isAgg9
  have z9 := Tryd.sizeOf9
  have u5 := Tryd.underlying5
  have a5 := Tryd.isAgg5
  have z5 := Tryd.sizeOf5
  have hS : Tryd.prog.underlying 25 = some (.struct (Tryd.prog.fieldsOf 25)) := by kernel_rfl
  have hp : Tryd.prog.stoodInHeld 25 = false := by kernel_rfl
  rw [run_eql_struct, show (10000 : Nat) = 9999 + 1 from rfl, run_equalIn_agg w 9999 25 _ _ hS hp]
  clear hS
  simp only [Program.fieldsOf, Tryd.underlying25]
  go_simp
theorem guard25 (op : BinOp) (a b : Operand) (x y : Array Value) (w : World) : (eqGuard op 25 a b (.agg x) (.agg y)).run Tryd.prog w = .ok () w := run_eqGuard_agg w op 25 a b x y (by kernel_rfl)

/-- A row's cells, four an element. -/
theorem flat_get {l : List (List Value)} (h4 : ∀ x ∈ l, x.length = 4) : ∀ i (h : i < l.length), ∀ o, o < 4 → l.flatten[i * 4 + o]? = l[i][o]? := by
  induction l with
  | nil => intro i h; simp at h
  | cons x r ih =>
    intro i h o ho
    have hx : x.length = 4 := h4 x (by simp)
    cases i with
    | zero =>
      rw [List.flatten_cons, List.getElem?_append_left (by omega)]
      simp
    | succ i =>
      rw [List.flatten_cons, List.getElem?_append_right (by omega), show (i + 1) * 4 + o - x.length = i * 4 + o by omega]
      exact ih (fun y hy => h4 y (by simp [hy])) i (by simpa using h) o ho
/-- What an element of decL is. -/
theorem decL_shape : ∀ (n : Nat) (l : List UInt8), l.length ≤ n → ∀ x ∈ decL l, ∃ (k : Int) (s : ByteArray) (m v : Int), x = [.int .u8 k, .string s, .int .i64 m, .int .i64 v]
  | 0, l, h => by rw [decL_none l (by omega)]; simp
  | n + 1, l, h => by
    by_cases h4 : 4 ≤ l.length
    · rw [decL_four l h4]
      intro x hx
      rcases List.mem_cons.1 hx with rfl | hx
      · exact ⟨_, _, _, _, rfl⟩
      · exact decL_shape n (l.drop 4) (by rw [List.length_drop]; omega) x hx
    · by_cases h0 : 0 < l.length
      · rw [decL_some l (by omega) h0]
        intro x hx
        simp at hx
        exact ⟨_, _, _, _, hx⟩
      · rw [decL_none l (by omega)]; simp

theorem row_cells {w : World} {base : Nat} {v : Value} {l : List (List Value)} (h : w.ownsRow base 25 4 v l.length l.flatten) (h4 : ∀ x ∈ l, ∃ (k : Int) (s : ByteArray) (m v : Int), x = [.int .u8 k, .string s, .int .i64 m, .int .i64 v]) (hpos : 0 < l.length) :
    ∃ g cap, v = .slice (some ⟨g, 0, none⟩) l.length cap ∧ g < w.heap.size ∧ ∀ i, i < l.length → ∃ (k : Int) (s : ByteArray) (m v : Int), l[i]? = some [.int .u8 k, .string s, .int .i64 m, .int .i64 v] ∧ w.cell? ⟨g, i * 4, none⟩ = some (.int .u8 k) ∧ w.cell? ⟨g, i * 4 + 1, none⟩ = some (.string s) ∧ w.cell? ⟨g, i * 4 + 2, none⟩ = some (.int .i64 m) ∧ w.cell? ⟨g, i * 4 + 3, none⟩ = some (.int .i64 v) := by
  obtain ⟨g, cap, rfl, _, hlt⟩ := h.form hpos
  refine ⟨g, cap, rfl, hlt, fun i hi => ?_⟩
  obtain ⟨k, s, m, v, e⟩ := h4 l[i] (List.getElem_mem hi)
  have l4 : ∀ x ∈ l, x.length = 4 := fun x hx => by obtain ⟨_, _, _, _, e⟩ := h4 x hx; rw [e]; rfl
  have rd : ∀ o u, o < 4 → l[i][o]? = some u → w.cell? ⟨g, i * 4 + o, none⟩ = some u := by
    intro o u ho hu
    have := h.cells (g := g) rfl (i * 4 + o) u ((flat_get l4 i hi o ho).trans hu)
    rwa [Addr.add_lit, Nat.zero_add] at this
  refine ⟨k, s, m, v, by rw [List.getElem?_eq_getElem hi, e], rd 0 _ (by omega) (by rw [e]; rfl), rd 1 _ (by omega) (by rw [e]; rfl), rd 2 _ (by omega) (by rw [e]; rfl), rd 3 _ (by omega) (by rw [e]; rfl)⟩

set_option maxRecDepth 100000 in
set_option maxHeartbeats 400000 in
/-- sameOps, where both rows hold the same. -/
theorem sameOps_any {w : World} {base1 base2 : Nat} {v1 v2 : Value} {l : List (List Value)} (h1 : w.ownsRow base1 25 4 v1 l.length l.flatten) (h2 : w.ownsRow base2 25 4 v2 l.length l.flatten) (h4 : ∀ x ∈ l, ∃ (k : Int) (s : ByteArray) (m v : Int), x = [.int .u8 k, .string s, .int .i64 m, .int .i64 v]) (hl : l.length ≤ 2000000000000) :
    Calls Tryd.prog 20 #[v1, v2] w fun e w' => e = .returned (.bool true) ∧ ∃ n, w' = w.drewN n := by
  have hA1 := fun hp => row_cells h1 h4 hp
  have hA2 := fun hp => row_cells h2 h4 hp
  obtain ⟨ad1, cap1, rfl⟩ := own_form h1
  obtain ⟨ad2, cap2, rfl⟩ := own_form h2
  have HA1 : Hid (0 < l.length → _) := hA1
  have HA2 : Hid (0 < l.length → _) := hA2
  clear h1 h2 hA1 hA2 h4
  go_enter Tryd.func20, Tryd.ntmps20
  go_wp2
  go_loopw [5] (fun i wr => ∃ (k n : Nat), k ≤ l.length ∧ i = .int .i64 k ∧ wr = w.drewN n) (fun i _ => l.length - (RowKit.intOf i).toNat)
  case atStart => exact ⟨0, 0, Nat.zero_le _, rfl, rfl⟩
  case round =>
    obtain ⟨k, n, hk, rfl, rfl⟩ := hrel
    by_cases hlt : k < l.length
    · obtain ⟨g1, c1, e1, hg1, hc1⟩ := HA1.out (by omega)
      obtain ⟨g2, c2, e2, hg2, hc2⟩ := HA2.out (by omega)
      injection e1 with e1 _ ec1
      injection e2 with e2 _ ec2
      subst e1 e2 ec1 ec2
      obtain ⟨a, s, m, v, el, p0, p1, p2, p3⟩ := hc1 k hlt
      obtain ⟨a', s', m', v', el', q0, q1, q2, q3⟩ := hc2 k hlt
      rw [el] at el'
      simp only [Option.some.injEq, List.cons.injEq, Value.int.injEq, Value.string.injEq, true_and, and_true] at el'
      obtain ⟨rfl, rfl, rfl, rfl⟩ := el'
      have hq := neq25 a s m v
      have hg := guard25
      have hki : ((k : Int) < (l.length : Int)) := by omega
      clear hc1 hc2 HA1 HA2 el
      go_wp2_with fail
      go_quiet (fail)
      go_wp2
      go_roundw
      case rel => exact ⟨k + 1, _, by omega, by simp, rfl⟩
      case measure => simp [RowKit.intOf]; omega
    · have hkl : k = l.length := by omega
      subst hkl
      have hlt2 : ¬ ((l.length : Int) < (l.length : Int)) := by omega
      clear HA1 HA2
      go_wp2
      go_ret
      exact ⟨rfl, n, rfl⟩

end Go.Proofs.YtdgfjneapialdaaDoor
