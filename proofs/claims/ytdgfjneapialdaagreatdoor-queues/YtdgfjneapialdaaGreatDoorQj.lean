import Derived.Test.YtdgfjneapialdaaGreatDoorQh
namespace Go.Proofs.YtdgfjneapialdaaGreatDoor
open Go Go.RowKit Go.Maps

def QS.after (s : QS) (k : ByteArray) (t : Int) : QS := if t ≤ 0 then s.add k else s.dueIn k (min t 1000)
theorem fa_cases {U : List ByteArray} {s : QS} (hO : QOk U s) (k : ByteArray) : (s.fa k).getD 0 = 0 ∨ (s.fa k).getD 0 = 1 ∨ (s.fa k).getD 0 = 2 ∨ (s.fa k).getD 0 = 3 := by
  cases h : s.fa k with
  | none => simp
  | some v =>
    have := hO.fas k v h
    simp
    omega
theorem dueIn_fa (s : QS) (k : ByteArray) (t : Int) : (s.dueIn k t).fa = s.fa := by
  unfold QS.dueIn
  split
  · rfl
  · split <;> rfl

section
variable {C : Nat → Prop} {U : List ByteArray} {w : World} {qb pm dm fm : Nat} {rv : Value} {s : QS}

set_option maxRecDepth 100000 in
set_option maxHeartbeats 1000000 in
theorem afterc_any (h : IsQ C U w qb pm dm fm rv s) (hC : ∀ b, C b → b < w.heap.size) (hU : U.length ≤ 1000000000000) (hO : QOk U s) (h1 : s.ck ≤ 4611686018427387904) (k : ByteArray) (hs0 : 1 ≤ k.size) (hs : k.size ≤ 8) (hk : k ∈ U) (t : Int) :
    Calls Tryz.prog 69 #[.pointer (some ⟨qb, 0, none⟩), .string k, .int .i64 t] w fun e w' => e = .returned (.int .i64 0) ∧ QIs C U w w' qb pm dm fm (s.after k t) := by
  unfold QS.after
  by_cases ht : t ≤ 0
  · rw [if_pos ht]
    have hc := addc_any h hC hU hO k hs0 hs hk
    have hd : decide (t ≤ 0) = true := decide_eq_true ht
    clear h hC hU hO h1 hs0 hs hk ht
    go_enter Tryz.func69, Tryz.ntmps69
    go_wp2_with fail
    refine hc.mono ?_
    rintro e w' ⟨rfl, hq⟩
    go_wp2
    go_ret
    exact ⟨rfl, hq⟩
  · rw [if_neg ht]
    have hd : decide (t ≤ 0) = false := decide_eq_false ht
    have h15 := fun w => isKey_any k w hs0 hs
    have h17 := fun w => clone_any k w hs
    have h18 := fun (w' : World) (hb : Below w.heap.size w w') => dueIn_any (h.below hb) hU k hs hk (min t 1000) hO.c0 h1 (by omega) (by omega)
    clear h hC hU hO h1 hs0 hs hk ht
    go_enter Tryz.func69, Tryz.ntmps69
    go_wp2_with fail
    refine (h15 _).mono ?_
    rintro e w' ⟨rfl, rfl⟩
    go_wp2_with fail
    refine (h17 _).mono ?_
    rintro e w1 ⟨rfl, hb⟩
    have h18' := h18 _ hb
    clear h18
    go_wp2_with fail
    refine h18'.mono ?_
    rintro e w2 ⟨rfl, hq⟩
    go_wp2
    go_ret
    exact ⟨rfl, hq.pre (KeptC.of_below hb rfl)⟩

set_option maxRecDepth 100000 in
set_option maxHeartbeats 1000000 in
theorem limitedc_any (h : IsQ C U w qb pm dm fm rv s) (hU : U.length ≤ 1000000000000) (hO : QOk U s) (h1 : s.ck ≤ 4611686018427387904) (k : ByteArray) (hs0 : 1 ≤ k.size) (hs : k.size ≤ 8) (hk : k ∈ U) :
    Calls Tryz.prog 71 #[.pointer (some ⟨qb, 0, none⟩), .string k] w fun e w' => e = .returned (.int .i64 0) ∧ QIs C U w w' qb pm dm fm (s.limited k) := by
  have hs' : k.size ≤ maxLen := by unfold maxLen; omega
  have h15 := fun w => isKey_any k w hs0 hs
  have h17 := fun w => clone_any k w hs
  have hqlt := h.lt
  unfold QS.limited QS.failed
  rw [dueIn_fa]
  rcases fa_cases hO k with e | e | e | e
  · have eb : QS.back ((s.fa k).getD 0) = 1 := by rw [e]; rfl
    rw [eb, if_pos (by omega), e]
    have hfa := fun (w' : World) (hb : Below w.heap.size w w') => (h.below hb).lookFa hs'
    rw [e] at hfa
    have hc4 := fun (w' : World) (hb : Below w.heap.size w w') => (h.below hb).c4
    have h18 := fun (w' : World) (hb : Below w.heap.size w w') => dueIn_any (h.below hb) hU k hs hk 1 hO.c0 h1 (by omega) (by omega)
    have hput : ∀ w1 w2 rv', Below w.heap.size w w1 → IsQ C U w2 qb pm dm fm rv' (s.dueIn k 1) → KeptC C w1 w2 → ∃ w3, (Instr.mapUpdate 181 (.map (some fm)) (.string k) (.int .i64 1)).run Tryz.prog w2 = .ok () w3 ∧ Hid (QIs C U w w3 qb pm dm fm { (s.dueIn k 1) with fa := upd s.fa k (some (0 + 1)) }) := by
      intro w1 w2 rv' hb hq hk2
      obtain ⟨w3, hrun, hq3, hk3, _⟩ := hq.putFa (by unfold maxLen; omega) hs' hk (v := 1) (by omega) (by omega)
      rw [dueIn_fa] at hq3
      exact ⟨w3, hrun, ⟨_, hq3⟩, ((KeptC.of_below hb rfl).trans hk2).trans hk3⟩
    have hfa2 : ∀ w2 rv', IsQ C U w2 qb pm dm fm rv' (s.dueIn k 1) → (Instr.lookup 181 (.map (some fm)) (.string k) false).run Tryz.prog w2 = .ok (.int .i64 0) w2 := by
      intro w2 rv' hq
      have := hq.lookFa hs'
      rw [dueIn_fa, e] at this
      exact this
    clear h hU hO h1 hs0 hs hk hs' e eb
    go_enter Tryz.func71, Tryz.ntmps71
    go_wp2_with fail
    refine (h15 _).mono ?_
    rintro e w' ⟨rfl, rfl⟩
    go_wp2_with fail
    refine (h17 _).mono ?_
    rintro e w1 ⟨rfl, hb⟩
    have hfa' := hfa _ hb
    have hc4' := hc4 _ hb
    have h18' := h18 _ hb
    have HB : Hid (Below w'.heap.size w' w1) := hb
    clear hfa hc4 h18 hb
    go_wp2_with fail
    refine h18'.mono ?_
    rintro e w2 ⟨rfl, ⟨rv', hq⟩, hk2⟩
    obtain ⟨w3, hrun3, HQ⟩ := hput _ _ _ HB.out hq hk2
    have hfa3 := hfa2 _ _ hq
    have hc4'' := hq.c4
    clear hput hfa2 hq hk2 hfa' hc4' h18'
    go_wp2
    go_ret
    exact ⟨rfl, HQ.out⟩
  · have eb : QS.back ((s.fa k).getD 0) = 2 := by rw [e]; rfl
    rw [eb, if_pos (by omega), e]
    have hfa := fun (w' : World) (hb : Below w.heap.size w w') => (h.below hb).lookFa hs'
    rw [e] at hfa
    have hc4 := fun (w' : World) (hb : Below w.heap.size w w') => (h.below hb).c4
    have h18 := fun (w' : World) (hb : Below w.heap.size w w') => dueIn_any (h.below hb) hU k hs hk 2 hO.c0 h1 (by omega) (by omega)
    have hput : ∀ w1 w2 rv', Below w.heap.size w w1 → IsQ C U w2 qb pm dm fm rv' (s.dueIn k 2) → KeptC C w1 w2 → ∃ w3, (Instr.mapUpdate 181 (.map (some fm)) (.string k) (.int .i64 2)).run Tryz.prog w2 = .ok () w3 ∧ Hid (QIs C U w w3 qb pm dm fm { (s.dueIn k 2) with fa := upd s.fa k (some (1 + 1)) }) := by
      intro w1 w2 rv' hb hq hk2
      obtain ⟨w3, hrun, hq3, hk3, _⟩ := hq.putFa (by unfold maxLen; omega) hs' hk (v := 2) (by omega) (by omega)
      rw [dueIn_fa] at hq3
      exact ⟨w3, hrun, ⟨_, hq3⟩, ((KeptC.of_below hb rfl).trans hk2).trans hk3⟩
    have hfa2 : ∀ w2 rv', IsQ C U w2 qb pm dm fm rv' (s.dueIn k 2) → (Instr.lookup 181 (.map (some fm)) (.string k) false).run Tryz.prog w2 = .ok (.int .i64 1) w2 := by
      intro w2 rv' hq
      have := hq.lookFa hs'
      rw [dueIn_fa, e] at this
      exact this
    clear h hU hO h1 hs0 hs hk hs' e eb
    go_enter Tryz.func71, Tryz.ntmps71
    go_wp2_with fail
    refine (h15 _).mono ?_
    rintro e w' ⟨rfl, rfl⟩
    go_wp2_with fail
    refine (h17 _).mono ?_
    rintro e w1 ⟨rfl, hb⟩
    have hfa' := hfa _ hb
    have hc4' := hc4 _ hb
    have h18' := h18 _ hb
    have HB : Hid (Below w'.heap.size w' w1) := hb
    clear hfa hc4 h18 hb
    go_wp2_with fail
    refine h18'.mono ?_
    rintro e w2 ⟨rfl, ⟨rv', hq⟩, hk2⟩
    obtain ⟨w3, hrun3, HQ⟩ := hput _ _ _ HB.out hq hk2
    have hfa3 := hfa2 _ _ hq
    have hc4'' := hq.c4
    clear hput hfa2 hq hk2 hfa' hc4' h18'
    go_wp2
    go_ret
    exact ⟨rfl, HQ.out⟩
  · have eb : QS.back ((s.fa k).getD 0) = 4 := by rw [e]; rfl
    rw [eb, if_pos (by omega), e]
    have hfa := fun (w' : World) (hb : Below w.heap.size w w') => (h.below hb).lookFa hs'
    rw [e] at hfa
    have hc4 := fun (w' : World) (hb : Below w.heap.size w w') => (h.below hb).c4
    have h18 := fun (w' : World) (hb : Below w.heap.size w w') => dueIn_any (h.below hb) hU k hs hk 4 hO.c0 h1 (by omega) (by omega)
    have hput : ∀ w1 w2 rv', Below w.heap.size w w1 → IsQ C U w2 qb pm dm fm rv' (s.dueIn k 4) → KeptC C w1 w2 → ∃ w3, (Instr.mapUpdate 181 (.map (some fm)) (.string k) (.int .i64 3)).run Tryz.prog w2 = .ok () w3 ∧ Hid (QIs C U w w3 qb pm dm fm { (s.dueIn k 4) with fa := upd s.fa k (some (2 + 1)) }) := by
      intro w1 w2 rv' hb hq hk2
      obtain ⟨w3, hrun, hq3, hk3, _⟩ := hq.putFa (by unfold maxLen; omega) hs' hk (v := 3) (by omega) (by omega)
      rw [dueIn_fa] at hq3
      exact ⟨w3, hrun, ⟨_, hq3⟩, ((KeptC.of_below hb rfl).trans hk2).trans hk3⟩
    have hfa2 : ∀ w2 rv', IsQ C U w2 qb pm dm fm rv' (s.dueIn k 4) → (Instr.lookup 181 (.map (some fm)) (.string k) false).run Tryz.prog w2 = .ok (.int .i64 2) w2 := by
      intro w2 rv' hq
      have := hq.lookFa hs'
      rw [dueIn_fa, e] at this
      exact this
    clear h hU hO h1 hs0 hs hk hs' e eb
    go_enter Tryz.func71, Tryz.ntmps71
    go_wp2_with fail
    refine (h15 _).mono ?_
    rintro e w' ⟨rfl, rfl⟩
    go_wp2_with fail
    refine (h17 _).mono ?_
    rintro e w1 ⟨rfl, hb⟩
    have hfa' := hfa _ hb
    have hc4' := hc4 _ hb
    have h18' := h18 _ hb
    have HB : Hid (Below w'.heap.size w' w1) := hb
    clear hfa hc4 h18 hb
    go_wp2_with fail
    refine h18'.mono ?_
    rintro e w2 ⟨rfl, ⟨rv', hq⟩, hk2⟩
    obtain ⟨w3, hrun3, HQ⟩ := hput _ _ _ HB.out hq hk2
    have hfa3 := hfa2 _ _ hq
    have hc4'' := hq.c4
    clear hput hfa2 hq hk2 hfa' hc4' h18'
    go_wp2
    go_ret
    exact ⟨rfl, HQ.out⟩
  · have eb : QS.back ((s.fa k).getD 0) = 8 := by rw [e]; rfl
    rw [eb, if_neg (by omega)]
    have hfa := fun (w' : World) (hb : Below w.heap.size w w') => (h.below hb).lookFa hs'
    rw [e] at hfa
    have hc4 := fun (w' : World) (hb : Below w.heap.size w w') => (h.below hb).c4
    have h18 := fun (w' : World) (hb : Below w.heap.size w w') => dueIn_any (h.below hb) hU k hs hk 8 hO.c0 h1 (by omega) (by omega)
    clear h hU hO h1 hs0 hs hk hs' e eb
    go_enter Tryz.func71, Tryz.ntmps71
    go_wp2_with fail
    refine (h15 _).mono ?_
    rintro e w' ⟨rfl, rfl⟩
    go_wp2_with fail
    refine (h17 _).mono ?_
    rintro e w1 ⟨rfl, hb⟩
    have hfa' := hfa _ hb
    have hc4' := hc4 _ hb
    have h18' := h18 _ hb
    have HB : Hid (Below w'.heap.size w' w1) := hb
    clear hfa hc4 h18 hb
    go_wp2_with fail
    refine h18'.mono ?_
    rintro e w2 ⟨rfl, hq⟩
    clear hfa' hc4' h18'
    go_wp2
    go_ret
    exact ⟨rfl, hq.pre (KeptC.of_below HB.out rfl)⟩
end

end Go.Proofs.YtdgfjneapialdaaGreatDoor
