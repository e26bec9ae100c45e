import Derived.Test.YtdgfjneapialdaaDoorSd
import Derived.Test.YtdgfjneapialdaaDoorSg
namespace Go.Proofs.YtdgfjneapialdaaDoor
open Go Go.RowKit Go.Maps

/-- The map has this object at this key. -/
def At (D : DataW Unit) (k : Int) (s : ByteArray) (o : Ob) : Prop := has D (klit k s) = true ∧ D.atKey (klit k s) Ob.zero.dat = o.dat
def Out (D : DataW Unit) (k : Int) (s : ByteArray) : Prop := has D (klit k s) = false

theorem at_inj {D : DataW Unit} {k : Int} {s : ByteArray} {a b : Ob} (h : At D k s a) (h' : At D k s b) : a = b := Ob.dat_inj (h.2.symm.trans h'.2)

section
variable {w W : World} {sb mb : Nat} {lim ver cre : Int} {log : List Value} {n : Nat} {D : DataW Unit}
theorem IsStore.look (h : IsStore w sb mb lim ver cre log n D) (k : Int) (s : ByteArray) (h0 : 0 ≤ k) (h1 : k ≤ 255) (hs : s.size ≤ maxLen) : (∃ o, At D k s o) ∨ Out D k s := by
  cases hh : has D (klit k s)
  · exact Or.inr hh
  · obtain ⟨v, ps, _, hv⟩ := h.map.look_ok (e := 36) law58 Tryd.underlying56 (zero29 w) (objR_mk Ob.zero) (key58 k s h0 h1 hs)
    obtain ⟨o, _, ho⟩ := objR_inv hv
    exact Or.inl ⟨o, hh, congrArg Prod.fst ho⟩
theorem IsStore.hit (h : IsStore w sb mb lim ver cre log n D) {k : Int} {s : ByteArray} {o : Ob} (h0 : 0 ≤ k) (h1 : k ≤ 255) (hs : s.size ≤ maxLen) (ha : At D k s o) :
    (Instr.lookup 56 (.map (some mb)) (.agg #[.int .u8 k, .string s]) true).run Tryd.prog w = .ok (.tuple #[.agg o.arr, .bool true]) w := by
  obtain ⟨v, ps, hr, hv⟩ := h.map.look_ok (e := 36) law58 Tryd.underlying56 (zero29 w) (objR_mk Ob.zero) (key58 k s h0 h1 hs)
  obtain ⟨o', rfl, ho⟩ := objR_inv hv
  have : o = o' := Ob.dat_inj (ha.2.symm.trans (congrArg Prod.fst ho))
  subst this
  rw [ha.1] at hr
  exact hr
theorem IsStore.miss (h : IsStore w sb mb lim ver cre log n D) {k : Int} {s : ByteArray} (h0 : 0 ≤ k) (h1 : k ≤ 255) (hs : s.size ≤ maxLen) (ha : Out D k s) :
    (Instr.lookup 56 (.map (some mb)) (.agg #[.int .u8 k, .string s]) true).run Tryd.prog w = .ok (.tuple #[.agg #[.int .u8 0, .string ⟨#[]⟩, .int .i64 0, .int .i64 0, .int .i64 0, .int .i64 0, .int .i64 0, .int .u8 0, .bool false], .bool false]) w := by
  obtain ⟨v, ps, hr, hv⟩ := h.map.look_ok (e := 36) law58 Tryd.underlying56 (zero29 w) (objR_mk Ob.zero) (key58 k s h0 h1 hs)
  obtain ⟨o', rfl, ho⟩ := objR_inv hv
  rw [atKey_of_not_has ha] at ho
  have : Ob.zero = o' := Ob.dat_inj (congrArg Prod.fst ho)
  subst this
  rw [show has D (klit k s) = false from ha] at hr
  exact hr
end

set_option maxHeartbeats 1000000 in
theorem get_miss (w : World) (sb mb : Nat) (lim ver cre : Int) (log : List Value) (n : Nat) (D : DataW Unit) (k : Int) (s : ByteArray) (h : IsStore w sb mb lim ver cre log n D) (h0 : 0 ≤ k) (h1 : k ≤ 255) (hs : s.size ≤ maxLen) (ha : Out D k s) :
    Calls Tryd.prog 16 #[.pointer (some ⟨sb, 0, none⟩), .int .u8 k, .string s] w fun e w' => e = .returned (.tuple #[.agg #[.int .u8 0, .string ⟨#[]⟩, .int .i64 0, .int .i64 0, .int .i64 0, .int .i64 0, .int .i64 0, .int .u8 0, .bool false], .int .i64 3]) ∧ Below w.heap.size w w' := by
  have c3 := h.c3
  have hsb := h.lt
  have hl := fun o => (h.alloc o).miss h0 h1 hs ha
  clear h
  go_enter Tryd.func16, Tryd.ntmps16
  go_wp2
  exact bodyPost_ret (v := .tuple #[.agg #[.int .u8 0, .string ⟨#[]⟩, .int .i64 0, .int .i64 0, .int .i64 0, .int .i64 0, .int .i64 0, .int .u8 0, .bool false], .int .i64 3]) (by simp [results, Tryd.results16, go_sem]) rfl ⟨rfl, ((Below.refl _ _).alloc (Nat.le_refl _) _).alloc (by simp) _⟩

set_option maxHeartbeats 1000000 in
theorem get_hit (w : World) (sb mb : Nat) (lim ver cre : Int) (log : List Value) (n : Nat) (D : DataW Unit) (k : Int) (s : ByteArray) (o : Ob) (h : IsStore w sb mb lim ver cre log n D) (h0 : 0 ≤ k) (h1 : k ≤ 255) (hs : s.size ≤ maxLen) (ha : At D k s o) :
    Calls Tryd.prog 16 #[.pointer (some ⟨sb, 0, none⟩), .int .u8 k, .string s] w fun e w' => e = .returned (.tuple #[.agg o.arr, .int .i64 0]) ∧ Below w.heap.size w w' := by
  have c3 := h.c3
  have hsb := h.lt
  have hl := fun o => (h.alloc o).hit h0 h1 hs ha
  obtain ⟨a0, a1, a2, a3, a4, a5, a6, a7, a8⟩ := o
  simp only [Ob.arr] at hl ⊢
  clear h ha
  go_enter Tryd.func16, Tryd.ntmps16
  go_wp2
  exact bodyPost_ret (v := .tuple #[.agg #[.int .u8 a0, .string a1, .int .i64 a2, .int .i64 a3, .int .i64 a4, .int .i64 a5, .int .i64 a6, .int .u8 a7, .bool a8], .int .i64 0]) (by simp [results, Tryd.results16, go_sem]) rfl ⟨rfl, ((Below.refl _ _).alloc (Nat.le_refl _) _).alloc (by simp) _⟩

end Go.Proofs.YtdgfjneapialdaaDoor
