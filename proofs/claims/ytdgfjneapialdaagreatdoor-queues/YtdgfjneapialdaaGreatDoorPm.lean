import Derived.Test.YtdgfjneapialdaaGreatDoorPl
import Derived.Test.YtdgfjneapialdaaGreatDoorQi
namespace Go.Proofs.YtdgfjneapialdaaGreatDoor
open Go Go.RowKit Go.Maps Go.Lib Go.Sort

theorem key_of_noKey {k : ByteArray} (h : noKeyB k = false) : 1 ≤ k.size ∧ k.size ≤ 8 := by
  unfold noKeyB at h
  rw [Bool.or_eq_false_iff, beq_eq_false_iff_ne, decide_eq_false_iff_not] at h
  omega
theorem isKey_no (k : ByteArray) (w : World) (hs : k.size ≤ maxLen) (h : noKeyB k = true) : Calls Tryz.prog 126 #[.string k] w fun e w' => e = .returned (.bool false) ∧ w' = w := by
  unfold maxLen at hs
  by_cases h0 : k.size = 0
  · have g0 : decide (((k.size : Nat) : Int) ≥ 1) = false := decide_eq_false (by omega)
    clear h0 h
    go_enter Tryz.func126, Tryz.ntmps126
    go_wp2
    go_ret
    exact ⟨rfl, rfl⟩
  · have h8 : 8 < k.size := by
      unfold noKeyB at h
      simp [h0] at h
      exact h
    have g0 : decide (((k.size : Nat) : Int) ≥ 1) = true := decide_eq_true (by omega)
    have g1 : decide (((k.size : Nat) : Int) ≤ 8) = false := decide_eq_false (by omega)
    clear h0 h8 h
    go_enter Tryz.func126, Tryz.ntmps126
    go_wp2
    go_ret
    exact ⟨rfl, rfl⟩

theorem add_no (k : ByteArray) (w : World) (p : Option Addr) (hs : k.size ≤ maxLen) (h : noKeyB k = true) : Calls Tryz.prog 67 #[.pointer p, .string k] w fun e w' => e = .returned (.int .i64 1) ∧ w' = w := by
  have hk := fun w => isKey_no k w hs h
  clear hs h
  go_enter Tryz.func67, Tryz.ntmps67
  go_wp2_with fail
  refine (hk _).mono ?_
  rintro e w' ⟨rfl, rfl⟩
  go_wp2
  go_ret
  exact ⟨rfl, rfl⟩

theorem limited_no (k : ByteArray) (w : World) (p : Option Addr) (hs : k.size ≤ maxLen) (h : noKeyB k = true) : Calls Tryz.prog 71 #[.pointer p, .string k] w fun e w' => e = .returned (.int .i64 1) ∧ w' = w := by
  have hk := fun w => isKey_no k w hs h
  clear hs h
  go_enter Tryz.func71, Tryz.ntmps71
  go_wp2_with fail
  refine (hk _).mono ?_
  rintro e w' ⟨rfl, rfl⟩
  go_wp2
  go_ret
  exact ⟨rfl, rfl⟩

theorem forget_no (k : ByteArray) (w : World) (p : Option Addr) (hs : k.size ≤ maxLen) (h : noKeyB k = true) : Calls Tryz.prog 73 #[.pointer p, .string k] w fun e w' => e = .returned (.int .i64 1) ∧ w' = w := by
  have hk := fun w => isKey_no k w hs h
  clear hs h
  go_enter Tryz.func73, Tryz.ntmps73
  go_wp2_with fail
  refine (hk _).mono ?_
  rintro e w' ⟨rfl, rfl⟩
  go_wp2
  go_ret
  exact ⟨rfl, rfl⟩

theorem done_no (k : ByteArray) (w : World) (p : Option Addr) (hs : k.size ≤ maxLen) (h : noKeyB k = true) : Calls Tryz.prog 77 #[.pointer p, .string k] w fun e w' => e = .returned (.int .i64 1) ∧ w' = w := by
  have hk := fun w => isKey_no k w hs h
  clear hs h
  go_enter Tryz.func77, Tryz.ntmps77
  go_wp2_with fail
  refine (hk _).mono ?_
  rintro e w' ⟨rfl, rfl⟩
  go_wp2
  go_ret
  exact ⟨rfl, rfl⟩

theorem after_no (k : ByteArray) (t : Int) (w : World) (p : Option Addr) (hs : k.size ≤ maxLen) (h : noKeyB k = true) : Calls Tryz.prog 69 #[.pointer p, .string k, .int .i64 t] w fun e w' => e = .returned (.int .i64 1) ∧ w' = w := by
  have hk := fun w => isKey_no k w hs h
  have ha := fun w => add_no k w p hs h
  clear hs h
  by_cases ht : t ≤ 0
  · have hd : decide (t ≤ 0) = true := decide_eq_true ht
    clear ht
    go_enter Tryz.func69, Tryz.ntmps69
    go_wp2_with fail
    refine (ha _).mono ?_
    rintro e w' ⟨rfl, rfl⟩
    go_wp2
    go_ret
    exact ⟨rfl, rfl⟩
  · have hd : decide (t ≤ 0) = false := decide_eq_false ht
    clear ht
    go_enter Tryz.func69, Tryz.ntmps69
    go_wp2_with fail
    refine (hk _).mono ?_
    rintro e w' ⟨rfl, rfl⟩
    go_wp2
    go_ret
    exact ⟨rfl, rfl⟩

theorem radd_no (k : ByteArray) (w : World) (p : Option Addr) (hs : k.size ≤ maxLen) (h : noKeyB k = true) : Calls Tryz.prog 68 #[.pointer p, .string k] w fun e w' => e = .returned (.int .i64 1) ∧ w' = w := by
  have hk := fun w => noKey_any k w hs
  rw [h] at hk
  clear hs h
  go_enter Tryz.func68, Tryz.ntmps68
  go_wp2_with fail
  refine (hk _).mono ?_
  rintro e w' ⟨rfl, rfl⟩
  go_wp2
  go_ret
  exact ⟨rfl, rfl⟩

theorem rlimited_no (k : ByteArray) (w : World) (p : Option Addr) (hs : k.size ≤ maxLen) (h : noKeyB k = true) : Calls Tryz.prog 72 #[.pointer p, .string k] w fun e w' => e = .returned (.int .i64 1) ∧ w' = w := by
  have hk := fun w => noKey_any k w hs
  rw [h] at hk
  clear hs h
  go_enter Tryz.func72, Tryz.ntmps72
  go_wp2_with fail
  refine (hk _).mono ?_
  rintro e w' ⟨rfl, rfl⟩
  go_wp2
  go_ret
  exact ⟨rfl, rfl⟩

theorem rforget_no (k : ByteArray) (w : World) (p : Option Addr) (hs : k.size ≤ maxLen) (h : noKeyB k = true) : Calls Tryz.prog 74 #[.pointer p, .string k] w fun e w' => e = .returned (.int .i64 1) ∧ w' = w := by
  have hk := fun w => noKey_any k w hs
  rw [h] at hk
  clear hs h
  go_enter Tryz.func74, Tryz.ntmps74
  go_wp2_with fail
  refine (hk _).mono ?_
  rintro e w' ⟨rfl, rfl⟩
  go_wp2
  go_ret
  exact ⟨rfl, rfl⟩

theorem rdone_no (k : ByteArray) (w : World) (p : Option Addr) (hs : k.size ≤ maxLen) (h : noKeyB k = true) : Calls Tryz.prog 78 #[.pointer p, .string k] w fun e w' => e = .returned (.int .i64 1) ∧ w' = w := by
  have hk := fun w => noKey_any k w hs
  rw [h] at hk
  clear hs h
  go_enter Tryz.func78, Tryz.ntmps78
  go_wp2_with fail
  refine (hk _).mono ?_
  rintro e w' ⟨rfl, rfl⟩
  go_wp2
  go_ret
  exact ⟨rfl, rfl⟩

theorem rafter_no (k : ByteArray) (t : Int) (w : World) (p : Option Addr) (hs : k.size ≤ maxLen) (h : noKeyB k = true) : Calls Tryz.prog 70 #[.pointer p, .string k, .int .i64 t] w fun e w' => e = .returned (.int .i64 1) ∧ w' = w := by
  have hk := fun w => noKey_any k w hs
  rw [h] at hk
  clear hs h
  go_enter Tryz.func70, Tryz.ntmps70
  go_wp2_with fail
  refine (hk _).mono ?_
  rintro e w' ⟨rfl, rfl⟩
  go_wp2
  go_ret
  exact ⟨rfl, rfl⟩

section
variable {C : Nat → Prop} {U : List ByteArray} {w : World} {qb pm dm fm : Nat} {rv : Value} {s : QS}
def QS.forget (s : QS) (k : ByteArray) : QS := { s with fa := upd s.fa k none }
theorem IsQ.delFa (h : IsQ C U w qb pm dm fm rv s) {k : ByteArray} (hs : k.size ≤ maxLen) (ty : TypeId) :
    ∃ w', (Builtin.delete_ #[181, 9] ty #[.map (some fm), .string k]).run Tryz.prog w = .ok (.tuple #[]) w' ∧ IsQ C U w' qb pm dm fm rv { s with fa := upd s.fa k none } ∧ KeptC C w w' ∧ w'.heap.size = w.heap.size := by
  obtain ⟨w', hrun, hm, ht⟩ := h.mf.del und9 und40 hs ty
  have hb : ∀ b, b < w.heap.size → b ≠ fm → w'.heap[b]? = w.heap[b]? := fun b hb hne => ht.grown.block b hb (fun e => hne (Option.some.inj e))
  exact ⟨w', hrun, ⟨(hb _ h.lt h.nf).trans h.blk, h.row.keep (fun b e => hb b (h.row.lt b e) (h.rq b e).2.2.2), h.mp.keep (hb _ h.mp.lt h.n2), h.md.keep (hb _ h.md.lt h.n3), hm, h.n1, h.n2, h.n3, h.cq, h.cp, h.cd, h.cf, h.cr⟩, (KeptC.refl C w).turned ht h.cf, turned_size ht⟩

set_option maxRecDepth 100000 in
set_option maxHeartbeats 1000000 in
theorem forgetc_any (h : IsQ C U w qb pm dm fm rv s) (k : ByteArray) (hs0 : 1 ≤ k.size) (hs : k.size ≤ 8) :
    Calls Tryz.prog 73 #[.pointer (some ⟨qb, 0, none⟩), .string k] w fun e w' => e = .returned (.int .i64 0) ∧ QIs C U w w' qb pm dm fm (s.forget k) := by
  have h15 := fun w => isKey_any k w hs0 hs
  have c4 := h.c4
  have hqlt := h.lt
  obtain ⟨w1, hrun, hq1, hk1, hz1⟩ := h.delFa (k := k) (by unfold maxLen; omega) 0
  have H : Hid (IsQ C U w1 qb pm dm fm rv { s with fa := upd s.fa k none }) := hq1
  have HK : Hid (KeptC C w w1) := hk1
  clear h hs0 hs hq1 hk1 hz1
  go_enter Tryz.func73, Tryz.ntmps73
  go_wp2_with fail
  refine (h15 _).mono ?_
  rintro e w' ⟨rfl, rfl⟩
  go_wp2
  go_ret
  exact ⟨rfl, ⟨_, H.out⟩, HK.out⟩
end

end Go.Proofs.YtdgfjneapialdaaGreatDoor
