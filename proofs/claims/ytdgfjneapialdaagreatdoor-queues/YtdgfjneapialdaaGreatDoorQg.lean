import Derived.Test.YtdgfjneapialdaaGreatDoorQf
namespace Go.Proofs.YtdgfjneapialdaaGreatDoor
open Go Go.RowKit Go.Maps

theorem pl_cases {U : List ByteArray} {s : QS} (hp : ∀ k v, s.pl k = some v → (v = 1 ∨ v = 2 ∨ v = 3) ∧ k ∈ U) (k : ByteArray) : (s.pl k).getD 0 = 0 ∨ (s.pl k).getD 0 = 1 ∨ (s.pl k).getD 0 = 2 ∨ (s.pl k).getD 0 = 3 := by
  cases h : s.pl k with
  | none => simp
  | some v =>
    have := (hp k v h).1
    simp
    omega

section
variable {C : Nat → Prop} {U : List ByteArray} {w : World} {qb pm dm fm : Nat} {rv : Value} {s : QS}

set_option maxRecDepth 100000 in
set_option maxHeartbeats 1000000 in
theorem add_any (h : IsQ C U w qb pm dm fm rv s) (hC : ∀ b, C b → b < w.heap.size) (hU : U.length ≤ 1000000000000) (hl : s.row.length ≤ U.length) (hp : ∀ k v, s.pl k = some v → (v = 1 ∨ v = 2 ∨ v = 3) ∧ k ∈ U) (k : ByteArray) (hs : k.size ≤ 8) (hk : k ∈ U) :
    Calls Tryz.prog 127 #[.pointer (some ⟨qb, 0, none⟩), .string k] w fun e w' => e = .returned (.tuple #[]) ∧ QIs C U w w' qb pm dm fm (s.add k) := by
  have hs' : k.size ≤ maxLen := by unfold maxLen; omega
  have hlook := h.lookPl hs'
  have c2 := h.c2
  have hqlt := h.lt
  rcases pl_cases hp k with e | e | e | e
  · have ew : s.add k = s.wait k := by simp [QS.add, e]
    have hc := wait_any h hC hU hl k hs hk
    rw [e] at hlook
    rw [ew]
    clear e ew h hp hl hC hU hs hs' hk
    go_enter Tryz.func127, Tryz.ntmps127
    go_wp2_with fail
    refine hc.mono ?_
    rintro e w' ⟨rfl, hq⟩
    go_wp2
    go_end0
    exact ⟨rfl, hq⟩
  · have ew : s.add k = s := by simp [QS.add, e]
    rw [e] at hlook
    rw [ew]
    have H : Hid (IsQ C U w qb pm dm fm rv s) := h
    clear e ew h hp hl hC hU hs hs' hk
    go_enter Tryz.func127, Tryz.ntmps127
    go_wp2
    go_end0
    exact ⟨rfl, ⟨_, H.out⟩, KeptC.refl C w⟩
  · have ew : s.add k = { s with pl := upd s.pl k (some 3) } := by simp [QS.add, e]
    obtain ⟨w1, hrun, hq1, hk1, hz1⟩ := h.putPl (by unfold maxLen; omega) hs' hk (v := 3) (by omega) (by omega)
    rw [e] at hlook
    rw [ew]
    have H : Hid (IsQ C U w1 qb pm dm fm rv { s with pl := upd s.pl k (some 3) }) := hq1
    have HK : Hid (KeptC C w w1) := hk1
    clear e ew h hp hl hC hU hs hs' hk hq1 hk1 hz1
    go_enter Tryz.func127, Tryz.ntmps127
    go_wp2
    go_end0
    exact ⟨rfl, ⟨_, H.out⟩, HK.out⟩
  · have ew : s.add k = s := by simp [QS.add, e]
    rw [e] at hlook
    rw [ew]
    have H : Hid (IsQ C U w qb pm dm fm rv s) := h
    clear e ew h hp hl hC hU hs hs' hk
    go_enter Tryz.func127, Tryz.ntmps127
    go_wp2
    go_end0
    exact ⟨rfl, ⟨_, H.out⟩, KeptC.refl C w⟩

theorem QIs.pre {w0 w1 w2 : World} {s' : QS} (h : QIs C U w1 w2 qb pm dm fm s') (hk : KeptC C w0 w1) : QIs C U w0 w2 qb pm dm fm s' := ⟨h.1, hk.trans h.2⟩

set_option maxRecDepth 100000 in
set_option maxHeartbeats 1000000 in
theorem addc_any (h : IsQ C U w qb pm dm fm rv s) (hC : ∀ b, C b → b < w.heap.size) (hU : U.length ≤ 1000000000000) (hO : QOk U s) (k : ByteArray) (hs0 : 1 ≤ k.size) (hs : k.size ≤ 8) (hk : k ∈ U) :
    Calls Tryz.prog 67 #[.pointer (some ⟨qb, 0, none⟩), .string k] w fun e w' => e = .returned (.int .i64 0) ∧ QIs C U w w' qb pm dm fm (s.add k) := by
  have h15 := fun w => isKey_any k w hs0 hs
  have h17 := fun w => clone_any k w hs
  have h16 := fun (w' : World) (hb : Below w.heap.size w w') => add_any (h.below hb) (fun b hb' => Nat.lt_of_lt_of_le (hC b hb') hb.size) hU hO.len hO.pls k hs hk
  clear h hC hU hO hs0 hs hk
  go_enter Tryz.func67, Tryz.ntmps67
  go_wp2_with fail
  refine (h15 _).mono ?_
  rintro e w' ⟨rfl, rfl⟩
  go_wp2_with fail
  refine (h17 _).mono ?_
  rintro e w1 ⟨rfl, hb⟩
  have h16' := h16 _ hb
  go_wp2_with fail
  refine h16'.mono ?_
  rintro e w2 ⟨rfl, hq⟩
  go_wp2
  go_ret
  exact ⟨rfl, hq.pre (KeptC.of_below hb rfl)⟩

set_option maxRecDepth 100000 in
set_option maxHeartbeats 1000000 in
theorem donec_any (h : IsQ C U w qb pm dm fm rv s) (hC : ∀ b, C b → b < w.heap.size) (hU : U.length ≤ 1000000000000) (hO : QOk U s) (k : ByteArray) (hs0 : 1 ≤ k.size) (hs : k.size ≤ 8) (hk : k ∈ U) :
    Calls Tryz.prog 77 #[.pointer (some ⟨qb, 0, none⟩), .string k] w fun e w' => e = .returned (.int .i64 0) ∧ QIs C U w w' qb pm dm fm (s.done k) := by
  have h15 := fun w => isKey_any k w hs0 hs
  have h17 := fun w => clone_any k w hs
  have hs' : k.size ≤ maxLen := by unfold maxLen; omega
  have hlook := h.lookPl hs'
  have c2 := h.c2
  have hqlt := h.lt
  rcases pl_cases hO.pls k with e | e | e | e
  · have ew : s.done k = s := by simp [QS.done, e]
    rw [e] at hlook
    rw [ew]
    have H : Hid (IsQ C U w qb pm dm fm rv s) := h
    clear e ew h hC hU hO hs0 hs hk hs'
    go_enter Tryz.func77, Tryz.ntmps77
    go_wp2_with fail
    refine (h15 _).mono ?_
    rintro e w' ⟨rfl, rfl⟩
    go_wp2
    go_ret
    exact ⟨rfl, ⟨_, H.out⟩, KeptC.refl C _⟩
  · have ew : s.done k = s := by simp [QS.done, e]
    rw [e] at hlook
    rw [ew]
    have H : Hid (IsQ C U w qb pm dm fm rv s) := h
    clear e ew h hC hU hO hs0 hs hk hs'
    go_enter Tryz.func77, Tryz.ntmps77
    go_wp2_with fail
    refine (h15 _).mono ?_
    rintro e w' ⟨rfl, rfl⟩
    go_wp2
    go_ret
    exact ⟨rfl, ⟨_, H.out⟩, KeptC.refl C _⟩
  · have ew : s.done k = { s with pl := upd s.pl k none } := by simp [QS.done, e]
    rw [e] at hlook
    rw [ew]
    obtain ⟨w1, hrun, hq1, hk1, hz1⟩ := h.delPl hs' 0
    have H : Hid (IsQ C U w1 qb pm dm fm rv { s with pl := upd s.pl k none }) := hq1
    have HK : Hid (KeptC C w w1) := hk1
    clear e ew h hC hU hO hs0 hs hk hs' hq1 hk1 hz1
    go_enter Tryz.func77, Tryz.ntmps77
    go_wp2_with fail
    refine (h15 _).mono ?_
    rintro e w' ⟨rfl, rfl⟩
    go_wp2
    go_ret
    exact ⟨rfl, ⟨_, H.out⟩, HK.out⟩
  · have ew : s.done k = s.wait k := by simp [QS.done, e]
    have h21 := fun (w' : World) (hb : Below w.heap.size w w') => wait_any (h.below hb) (fun b hb' => Nat.lt_of_lt_of_le (hC b hb') hb.size) hU hO.len k hs hk
    rw [e] at hlook
    rw [ew]
    clear e ew h hC hU hO hs0 hs hk hs'
    go_enter Tryz.func77, Tryz.ntmps77
    go_wp2_with fail
    refine (h15 _).mono ?_
    rintro e w' ⟨rfl, rfl⟩
    go_wp2_with fail
    refine (h17 _).mono ?_
    rintro e w1 ⟨rfl, hb⟩
    have h21' := h21 _ hb
    go_wp2_with fail
    refine h21'.mono ?_
    rintro e w2 ⟨rfl, hq⟩
    go_wp2
    go_ret
    exact ⟨rfl, hq.pre (KeptC.of_below hb rfl)⟩
end

end Go.Proofs.YtdgfjneapialdaaGreatDoor
