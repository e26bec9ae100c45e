import Derived.Test.YtdgfjneapialdaaGreatDoorQg
namespace Go.Proofs.YtdgfjneapialdaaGreatDoor
open Go Go.RowKit Go.Maps

section
variable {C : Nat → Prop} {U : List ByteArray} {w : World} {qb pm dm fm : Nat} {rv : Value} {s : QS}

set_option maxRecDepth 100000 in
set_option maxHeartbeats 1000000 in
theorem dueIn_any (h : IsQ C U w qb pm dm fm rv s) (hU : U.length ≤ 1000000000000) (k : ByteArray) (hs : k.size ≤ 8) (hk : k ∈ U) (t : Int) (h0 : 0 ≤ s.ck) (h1 : s.ck ≤ 4611686018427387904) (t0 : 0 ≤ t) (t1 : t ≤ 1000) :
    Calls Tryz.prog 131 #[.pointer (some ⟨qb, 0, none⟩), .string k, .int .i64 t] w fun e w' => e = .returned (.tuple #[]) ∧ QIs C U w w' qb pm dm fm (s.dueIn k t) := by
  have hs' : k.size ≤ maxLen := by unfold maxLen; omega
  have hlook := h.lookDu hs'
  have c0 := h.c0
  have c3 := h.c3
  have hqlt := h.lt
  obtain ⟨w1, hrun, hq1, hk1, hz1⟩ := h.putDu (by unfold maxLen; omega) hs' hk (v := s.ck + t) (by omega) (by omega)
  have H : Hid (IsQ C U w qb pm dm fm rv s) := h
  have H1 : Hid (IsQ C U w1 qb pm dm fm rv { s with du := upd s.du k (some (s.ck + t)) }) := hq1
  have HK : Hid (KeptC C w w1) := hk1
  unfold QS.dueIn
  clear h hU hs hk hq1 hk1 hz1 hs'
  cases hd : s.du k with
  | none =>
    rw [hd] at hlook
    simp only [Option.getD_none, Option.isSome_none] at hlook ⊢
    clear hd
    generalize hck : s.ck = ck at *
    have HC : Hid (s.ck = ck) := hck
    clear hck
    go_enter Tryz.func131, Tryz.ntmps131
    go_wp2
    go_end0
    exact ⟨rfl, ⟨_, H1.out⟩, HK.out⟩
  | some was =>
    rw [hd] at hlook
    simp only [Option.getD_some, Option.isSome_some] at hlook ⊢
    clear hd
    by_cases hlt : s.ck + t < was
    · rw [if_pos hlt]
      have hd : decide (s.ck + t < was) = true := decide_eq_true hlt
      clear hlt
      generalize hck : s.ck = ck at *
      clear hck
      go_enter Tryz.func131, Tryz.ntmps131
      go_wp2
      go_end0
      exact ⟨rfl, ⟨_, H1.out⟩, HK.out⟩
    · rw [if_neg hlt]
      have hd : decide (s.ck + t < was) = false := decide_eq_false hlt
      clear hlt
      generalize hck : s.ck = ck at *
      clear hck
      go_enter Tryz.func131, Tryz.ntmps131
      go_wp2
      go_end0
      exact ⟨rfl, ⟨_, H.out⟩, KeptC.refl C w⟩

set_option maxRecDepth 100000 in
set_option maxHeartbeats 1000000 in
theorem take_none (h : IsQ C U w qb pm dm fm rv s) (he : s.row = []) :
    Calls Tryz.prog 75 #[.pointer (some ⟨qb, 0, none⟩)] w fun e w' => e = .returned (.tuple #[.string ⟨#[]⟩, .bool false]) ∧ QIs C U w w' qb pm dm fm s := by
  obtain ⟨ao, cap, rfl⟩ := h.row.form
  have c1 := h.c1
  have hqlt := h.lt
  rw [he] at c1
  simp only [List.length_nil] at c1
  have H : Hid (IsQ C U w qb pm dm fm (.slice ao s.row.length cap) s) := h
  clear h he
  go_enter Tryz.func75, Tryz.ntmps75
  go_wp2
  go_ret2
  exact ⟨rfl, ⟨_, H.out⟩, KeptC.refl C w⟩

set_option maxRecDepth 100000 in
set_option maxHeartbeats 1000000 in
theorem new_any (C : Nat → Prop) (U : List ByteArray) (w : World) (hC : ∀ b, C b → b < w.heap.size) :
    Calls Tryz.prog 44 #[] w fun e w' => e = .returned (.pointer (some ⟨w.heap.size + 3, 0, none⟩)) ∧ IsQ C U w' (w.heap.size + 3) w.heap.size (w.heap.size + 1) (w.heap.size + 2) (.slice none 0 0) QS.new ∧ Below w.heap.size w w' := by
  have hmm := @run_makeMap Tryz.prog
  have ha : ∀ (W : World) (o : Obj), (W.alloc o).heap[W.heap.size]? = some o := fun W o => (MapKept.heap_alloc W o).1
  have hb : ∀ (W : World) (o : Obj) (i : Nat), i < W.heap.size → (W.alloc o).heap[i]? = W.heap[i]? := fun W o i hi => Below.heap_alloc W o i hi
  go_enter Tryz.func44, Tryz.ntmps44
  go_wp2
  go_ret
  refine ⟨rfl, ⟨?_, RowAt.nil _ _, ?_, ?_, ?_, by omega, by omega, by omega, fun e => by have := hC _ e; omega, fun e => by have := hC _ e; omega, fun e => by have := hC _ e; omega, fun e => by have := hC _ e; omega, fun k e => by cases e⟩, ?_⟩
  · have := ha (((w.alloc (.map #[] 0)).alloc (.map #[] 0)).alloc (.map #[] 0)) (.cells (qArr 0 (.slice none 0 0) w.heap.size (w.heap.size + 1) (w.heap.size + 2)) 183)
    simp only [World.size_alloc] at this
    exact this
  · exact (((MapOf.made Tryz.prog w 9 202 .u8 U).keep (hb _ _ _ (by simp))).keep (hb _ _ _ (by simp; omega))).keep (hb _ _ _ (by simp; omega))
  · have := MapOf.made Tryz.prog (w.alloc (.map #[] 0)) 9 3 .i64 U
    simp only [World.size_alloc] at this
    exact (this.keep (hb _ _ _ (by simp))).keep (hb _ _ _ (by simp))
  · have := MapOf.made Tryz.prog ((w.alloc (.map #[] 0)).alloc (.map #[] 0)) 9 3 .i64 U
    simp only [World.size_alloc] at this
    exact this.keep (hb _ _ _ (by simp))
  · have bb : ∀ {W : World} (_ : Below w.heap.size w W) (o : Obj), Below w.heap.size w (W.alloc o) := fun h o => h.alloc h.size o
    exact bb (bb (bb (bb (Below.refl _ _) _) _) _) _
end

end Go.Proofs.YtdgfjneapialdaaGreatDoor
