import Derived.Test.YtdgfjneapialdaaGreatDoorSn
import Derived.Test.YtdgfjneapialdaaGreatDoorShelfS
import Derived.Lib.ItoaLen
namespace Go.Proofs.YtdgfjneapialdaaGreatDoor.S
open Go Go.RowKit Go.Maps

/-- The library's table of powers lies as its text has it. -/
def Tab (w : World) : Prop := Lib.TabIs Tryz.prog w "internal/strconv.uint64pow10" .u64 Lib.pow10Tab

theorem g1 : Tryz.prog.globalNamed "internal/strconv.uint64pow10" = some 1 := by kernel_rfl
theorem Tab.keep {w w' : World} (h : Tab w) (hb : w'.heap[1]? = w.heap[1]?) : Tab w' := by
  unfold Tab Lib.TabIs World.var? at *
  rw [g1] at *
  simp only [Option.bind_some] at h ⊢
  rw [hb]
  exact h
theorem below_grown (w : World) (q : Nat) (os : Array Obj) : Below w.heap.size w (Go.Sort.grow (w.drewN q) os) :=
  ⟨rfl, rfl, rfl, by simp [Go.Sort.grow], fun k hk => by simp [Go.Sort.grow, Array.getElem?_append, hk]⟩
theorem Tab.below {w w' : World} (h : Tab w) (hB : 1 < w.heap.size) (hb : Below w.heap.size w w') : Tab w' := h.keep (hb.block 1 hB)

set_option maxHeartbeats 400000 in
theorem clone_any (s : ByteArray) (w : World) (hs : s.size ≤ 281474976710656) :
    Calls Tryz.prog 128 #[.string s] w fun e w' => e = .returned (.string s) ∧ Below w.heap.size w w' := by
  have hc := Tryz.stringslite_Clone s w hs
  go_enter Tryz.func128, Tryz.ntmps128
  go_wp2_with fail
  refine hc.mono ?_
  rintro e w1 ⟨rfl, hb⟩
  go_wp2
  go_ret
  exact ⟨rfl, hb⟩

def podName (u : Int) : ByteArray := ⟨#[112]⟩ ++ ⟨(Lib.itoa u).toArray⟩

set_option maxHeartbeats 400000 in
theorem ownName_set (s : ByteArray) (u v r t ow ph : Int) (g : Bool) (w : World) (hs : s.size ≤ 281474976710656) :
    Calls Tryz.prog 113 #[.agg #[.int .u8 0, .string s, .int .i64 u, .int .i64 v, .int .i64 r, .int .i64 t, .int .i64 ow, .int .u8 ph, .bool g]] w fun e w' => e = .returned (.string s) ∧ Below w.heap.size w w' := by
  have hc := fun W => clone_any s W hs
  go_enter Tryz.func113, Tryz.ntmps113
  go_wp2_with fail
  refine (hc _).mono ?_
  rintro e w1 ⟨rfl, hb⟩
  go_wp2
  go_ret
  exact ⟨rfl, back9 hb⟩

set_option maxHeartbeats 400000 in
theorem ownName_pod (s : ByteArray) (u v r t ow ph : Int) (g : Bool) (w : World) (hT : Tab w) (hB : 1 < w.heap.size) (h0 : 0 ≤ u) (h1 : u ≤ 100000) :
    Calls Tryz.prog 113 #[.agg #[.int .u8 1, .string s, .int .i64 u, .int .i64 v, .int .i64 r, .int .i64 t, .int .i64 ow, .int .u8 ph, .bool g]] w fun e w' => e = .returned (.string (podName u)) ∧ Below w.heap.size w w' := by
  have hc := fun o => Tryz.strconv_Itoa u (by omega) (by omega) (w.alloc o) (Tab.keep hT (Below.heap_alloc _ _ _ (by omega)))
  have hl : (Lib.itoa u).length ≤ 21 := Lib.itoa_length_le u (by omega) (by omega)
  have hsz : (⟨(Lib.itoa u).toArray⟩ : ByteArray).size ≤ 21 := hl
  go_enter Tryz.func113, Tryz.ntmps113
  go_wp2_with fail
  refine (hc _).mono ?_
  rintro e w1 ⟨rfl, q, os, rfl⟩
  go_wp2
  go_ret
  exact ⟨rfl, back9 (below_grown _ _ _)⟩

def crErr (bad : Bool) (ver : Int) (is : Bool) (sz lim : Int) : Int := if bad then 1 else if ver = 600 then 6 else if is then 2 else if sz = lim then 5 else 0

set_option maxHeartbeats 400000 in
theorem may_invalid (k : Int) (s : ByteArray) (u v r t ow ph : Int) (g : Bool) (w : World) (sb : Nat) (hs : s.size ≤ maxLen) (hr : rightCrB k s r t ow ph = false) :
    Calls Tryz.prog 112 #[.pointer (some ⟨sb, 0, none⟩), .agg #[.int .u8 k, .string s, .int .i64 u, .int .i64 v, .int .i64 r, .int .i64 t, .int .i64 ow, .int .u8 ph, .bool g]] w fun e w' => e = .returned (.int .i64 1) ∧ Below w.heap.size w w' := by
  have hc := fun W => rightToCreate_any k s u v r t ow ph g W hs
  simp only [hr] at hc
  go_enter Tryz.func112, Tryz.ntmps112
  go_wp2_with fail
  refine (hc _).mono ?_
  rintro e w1 ⟨rfl, hb⟩
  go_wp2
  go_ret
  exact ⟨rfl, back9 hb⟩

set_option maxHeartbeats 400000 in
theorem may_old (k : Int) (s : ByteArray) (u v r t ow ph : Int) (g : Bool) (w : World) (sb mb : Nat) (lim ver cre : Int) (log : List Value) (n : Nat) (D : DataW Unit) (h : IsStore w sb mb lim ver cre log n D) (hv : ver = 600) (hs : s.size ≤ maxLen) (hr : rightCrB k s r t ow ph = true) :
    Calls Tryz.prog 112 #[.pointer (some ⟨sb, 0, none⟩), .agg #[.int .u8 k, .string s, .int .i64 u, .int .i64 v, .int .i64 r, .int .i64 t, .int .i64 ow, .int .u8 ph, .bool g]] w fun e w' => e = .returned (.int .i64 6) ∧ Below w.heap.size w w' := by
  subst hv
  have hc := fun W => rightToCreate_any k s u v r t ow ph g W hs
  simp only [hr] at hc
  have H : Hid (IsStore w sb mb lim 600 cre log n D) := h
  clear h
  go_enter Tryz.func112, Tryz.ntmps112
  go_wp2_with fail
  refine (hc _).mono ?_
  rintro e w1 ⟨rfl, hb⟩
  have c1 := (H.out.below (back9 hb)).c1
  go_wp2
  go_ret
  exact ⟨rfl, back9 hb⟩

set_option maxRecDepth 100000 in
set_option maxHeartbeats 1000000 in
theorem may_exists (k : Int) (s : ByteArray) (u v r t ow ph : Int) (g : Bool) (w : World) (sb mb : Nat) (lim ver cre : Int) (log : List Value) (n : Nat) (D : DataW Unit) (o : Ob) (h : IsStore w sb mb lim ver cre log n D) (hv : ver ≠ 600) (h0 : 0 ≤ k) (h1 : k ≤ 255) (hs : s.size ≤ maxLen) (hr : rightCrB k s r t ow ph = true) (ha : At D k s o) :
    Calls Tryz.prog 112 #[.pointer (some ⟨sb, 0, none⟩), .agg #[.int .u8 k, .string s, .int .i64 u, .int .i64 v, .int .i64 r, .int .i64 t, .int .i64 ow, .int .u8 ph, .bool g]] w fun e w' => e = .returned (.int .i64 2) ∧ Below w.heap.size w w' := by
  have hv' : (ver == 600) = false := by simpa using hv
  have hc := fun W => rightToCreate_any k s u v r t ow ph g W hs
  simp only [hr] at hc
  have H : Hid (IsStore w sb mb lim ver cre log n D) := h
  clear h
  have HA : Hid (At D k s o) := ha
  clear ha hv
  go_enter Tryz.func112, Tryz.ntmps112
  go_wp2_with fail
  refine (hc _).mono ?_
  rintro e w1 ⟨rfl, hb⟩
  have hS1 : Hid (IsStore w1 sb mb lim ver cre log n D) := H.out.below (back9 hb)
  have c1 := hS1.out.c1
  have c3 := hS1.out.c3
  have hz := lt_of_back hb
  have hsb := hS1.out.lt
  obtain ⟨⟨y0, y1, y2, y3, y4, y5, y6, y7, y8⟩, yf⟩ := nine ((hb.block w.heap.size (by simp)).trans (alloc_last w _))
  have HST : Hid (∀ W', Below w1.heap.size w1 W' → IsStore W' sb mb lim ver cre log n D) := fun W' hW => hS1.out.below hW
  have HLZ : Hid (w.heap.size < w1.heap.size ∧ sb < w1.heap.size) := ⟨hz, hsb⟩
  have HNK : Hid (∀ W', Below w1.heap.size w1 W' → (W'.cell? ⟨sb, 3, none⟩ = some (.map (some mb)) ∧ W'.cell? ⟨w.heap.size, 0, none⟩ = some (.int .u8 k) ∧ W'.cell? ⟨w.heap.size, 1, none⟩ = some (.string s) ∧ W'.cell? ⟨w.heap.size, 2, none⟩ = some (.int .i64 u) ∧ W'.cell? ⟨w.heap.size, 3, none⟩ = some (.int .i64 v) ∧ W'.cell? ⟨w.heap.size, 4, none⟩ = some (.int .i64 r) ∧ W'.cell? ⟨w.heap.size, 5, none⟩ = some (.int .i64 t) ∧ W'.cell? ⟨w.heap.size, 6, none⟩ = some (.int .i64 ow) ∧ W'.cell? ⟨w.heap.size, 7, none⟩ = some (.int .u8 ph) ∧ W'.cell? ⟨w.heap.size, 8, none⟩ = some (.bool g))) := fun W' hW => by
    have e1 : ∀ o, W'.cell? ⟨w.heap.size, o, none⟩ = w1.cell? ⟨w.heap.size, o, none⟩ := fun o => hW.cell (p := ⟨w.heap.size, o, none⟩) HLZ.out.1
    have e2 : W'.cell? ⟨sb, 3, none⟩ = w1.cell? ⟨sb, 3, none⟩ := hW.cell (p := ⟨sb, 3, none⟩) HLZ.out.2
    simp only [e1, e2]
    exact ⟨c3, y0, y1, y2, y3, y4, y5, y6, y7, y8⟩
  have HLK : Hid (∀ W', Below w1.heap.size w1 W' → (Instr.lookup 105 (.map (some mb)) (.agg #[.int .u8 k, .string s]) true).run Tryz.prog W' = .ok (.tuple #[.agg o.arr, .bool true]) W') := fun W' hW => (HST.out W' hW).hit h0 h1 hs HA.out
  have hH0 : Below w1.heap.size w1 w1.drew := (Below.refl _ _).drew
  clear c3 y0 y1 y2 y3 y4 y5 y6 y7 y8 yf
  go_wp2_with fail
  refine wp_region_held_drew (S := fun w' => Below w1.heap.size w1 w') (by kernel_rfl) hH0 (fun _ => ?_)
  refine wpAnyH_take (i := 0) (oi := { dst := some 16, op := Op.move (Operand.tmp 0), type := 88, pos := "store.go:133", after := #[], guard := none }) (v := ?_) rfl (by kernel_rfl) (by kernel_rfl) (by kernel_rfl) (fun _ _ _ h => h) (Or.inl ⟨by rfl, ?_⟩) hH0 ?_
  rotate_left
  · intro W' hSw
    go_simp
    try with_reducible rfl
  simp only [Act.put, List.setIfInBounds_toArray, List.set_cons_zero, List.set_cons_succ]
  refine wpAnyH_take (i := 1) (oi := { dst := some 17, op := Op.nilCheck (Operand.tmp 16), type := 0, pos := "store.go:133", after := #[{ on := 0, ground := Ground.data }], guard := none }) (v := ?_) rfl (by kernel_rfl) (by kernel_rfl) (by kernel_rfl) (fun _ _ _ h => h) (Or.inl ⟨by rfl, ?_⟩) hH0 ?_
  rotate_left
  · intro W' hSw
    go_simp
    try with_reducible rfl
  simp only [Act.put, List.setIfInBounds_toArray, List.set_cons_zero, List.set_cons_succ]
  refine wpAnyH_take (i := 2) (oi := { dst := some 18, op := Op.fieldAddr 173 (Operand.tmp 17) 3, type := 0, pos := "store.go:133", after := #[{ on := 1, ground := Ground.data }], guard := none }) (v := ?_) rfl (by kernel_rfl) (by kernel_rfl) (by kernel_rfl) (fun _ _ _ h => h) (Or.inl ⟨by rfl, ?_⟩) hH0 ?_
  rotate_left
  · intro W' hSw
    go_simp
    try with_reducible rfl
  simp only [Act.put, List.setIfInBounds_toArray, List.set_cons_zero, List.set_cons_succ]
  refine wpAnyH_take (i := 3) (oi := { dst := some 19, op := Op.load 105 (Operand.tmp 18), type := 105, pos := "store.go:133", after := #[{ on := 2, ground := Ground.data }], guard := none }) (v := ?_) rfl (by kernel_rfl) (by kernel_rfl) (by kernel_rfl) (fun _ _ _ h => h) (Or.inl ⟨by rfl, ?_⟩) hH0 ?_
  rotate_left
  · intro W' hSw
    obtain ⟨f0, f1, f2, f3, f4, f5, f6, f7, f8, f9⟩ := HNK.out W' hSw
    go_simp
    try with_reducible rfl
  simp only [Act.put, List.setIfInBounds_toArray, List.set_cons_zero, List.set_cons_succ]
  refine wpAnyH_take (i := 4) (oi := { dst := some 20, op := Op.load 84 (Operand.tmp 3), type := 84, pos := "store.go:133", after := #[], guard := none }) (v := ?_) rfl (by kernel_rfl) (by kernel_rfl) (by kernel_rfl) (fun _ _ _ h => h) (Or.inl ⟨by rfl, ?_⟩) hH0 ?_
  rotate_left
  · intro W' hSw
    obtain ⟨f0, f1, f2, f3, f4, f5, f6, f7, f8, f9⟩ := HNK.out W' hSw
    go_simp
    try with_reducible rfl
  simp only [Act.put, List.setIfInBounds_toArray, List.set_cons_zero, List.set_cons_succ]
  refine wpAnyH_ready (rs := [5, 10]) (by kernel_rfl) (by simp) ?_
  refine AllReadyH.cons rfl (fun K hK => ?_) (AllReadyH.cons rfl (fun K hK => ?_) AllReadyH.nil)
  · go_simp
    go_wp2_with (go_at_call 175; refine (keyOf_any k s u v r t ow ph g _).mono ?_; rintro e w2 ⟨rfl, hb2⟩)
    have hH2 : Below w1.heap.size w1 w2 := hH0.trans (show Below w1.heap.size w1.drew w2 from hb2)
    clear hb2
    refine hK.out _ _ hH2 (fun _ => ?_)
    clear hK K
    refine wpAnyH_take (i := 6) (oi := { dst := some 22, op := Op.lookup 105 (Operand.tmp 19) (Operand.tmp 21) true, type := 192, pos := "store.go:133", after := #[{ on := 3, ground := Ground.data }, { on := 5, ground := Ground.data }], guard := none }) (v := ?_) rfl (by kernel_rfl) (by kernel_rfl) (by kernel_rfl) (fun _ _ _ h => h) (Or.inl ⟨by rfl, ?_⟩) hH2 ?_
    rotate_left
    · intro W' hSw
      have hl := HLK.out W' hSw
      simp only [Ob.arr] at hl
      go_simp
      try with_reducible rfl
    simp only [Act.put, List.setIfInBounds_toArray, List.set_cons_zero, List.set_cons_succ]
    refine wpAnyH_take (i := 7) (oi := { dst := some 15, op := Op.move (Operand.tmp 22), type := 192, pos := "store.go:133", after := #[{ on := 6, ground := Ground.data }], guard := none }) (v := ?_) rfl (by kernel_rfl) (by kernel_rfl) (by kernel_rfl) (fun _ _ _ h => h) (Or.inl ⟨by rfl, ?_⟩) hH2 ?_
    rotate_left
    · intro W' hSw
      go_simp
      try with_reducible rfl
    simp only [Act.put, List.setIfInBounds_toArray, List.set_cons_zero, List.set_cons_succ]
    refine wpAnyH_take (i := 8) (oi := { dst := some 23, op := Op.extract (Operand.tmp 15) 0, type := 84, pos := "store.go:133", after := #[{ on := 7, ground := Ground.data }], guard := none }) (v := ?_) rfl (by kernel_rfl) (by kernel_rfl) (by kernel_rfl) (fun _ _ _ h => h) (Or.inl ⟨by rfl, ?_⟩) hH2 ?_
    rotate_left
    · intro W' hSw
      go_simp
      try with_reducible rfl
    simp only [Act.put, List.setIfInBounds_toArray, List.set_cons_zero, List.set_cons_succ]
    refine wpAnyH_take (i := 9) (oi := { dst := some 24, op := Op.extract (Operand.tmp 15) 1, type := 4, pos := "store.go:133", after := #[{ on := 7, ground := Ground.data }, { on := 11, ground := Ground.gcOnly Departure.lateStores }], guard := none }) (v := ?_) rfl (by kernel_rfl) (by kernel_rfl) (by kernel_rfl) (fun _ _ _ h => h) (Or.inl ⟨by rfl, ?_⟩) hH2 ?_
    rotate_left
    · intro W' hSw
      go_simp
      try with_reducible rfl
    simp only [Act.put, List.setIfInBounds_toArray, List.set_cons_zero, List.set_cons_succ]
    refine wpAnyH_ready (rs := [10]) (by kernel_rfl) (by simp) ?_
    refine AllReadyH.cons rfl (fun K hK => ?_) AllReadyH.nil
    go_simp
    have hH3 := hH2.alloc hH2.size (.cells #[.int .u8 0, .string ⟨#[]⟩, .int .i64 0, .int .i64 0, .int .i64 0, .int .i64 0, .int .i64 0, .int .u8 0, .bool false] 84)
    refine hK.out _ _ hH3 (fun _ => ?_)
    clear hK K
    refine wpAnyH_ready (rs := [11]) (by kernel_rfl) (by simp) ?_
    refine AllReadyH.cons rfl (fun K hK => ?_) AllReadyH.nil
    go_simp
    have hH4 : Below w1.heap.size w1 (w2.alloc (.cells #[.int .u8 o.kind, .string o.name, .int .i64 o.uid, .int .i64 o.version, .int .i64 o.replicas, .int .i64 o.status, .int .i64 o.owner, .int .u8 o.phase, .bool o.gone] 84)) := hH2.alloc hH2.size _
    refine hK.out _ _ hH4 (fun _ => ?_)
    clear hK K
    refine wpAnyH_take (i := 12) (oi := { dst := some 6, op := Op.assign (Operand.tmp 24), type := 4, pos := "store.go:133", after := #[{ on := 9, ground := Ground.data }, { on := 11, ground := Ground.chain }, { on := 0, ground := Ground.phase }, { on := 1, ground := Ground.phase }, { on := 2, ground := Ground.phase }, { on := 3, ground := Ground.phase }, { on := 4, ground := Ground.phase }, { on := 5, ground := Ground.phase }, { on := 6, ground := Ground.phase }, { on := 7, ground := Ground.phase }, { on := 8, ground := Ground.phase }, { on := 9, ground := Ground.phase }, { on := 10, ground := Ground.phase }, { on := 11, ground := Ground.phase }], guard := none }) (v := ?_) rfl (by kernel_rfl) (by kernel_rfl) (by kernel_rfl) (fun _ _ _ h => h) (Or.inl ⟨by rfl, ?_⟩) hH4 ?_
    rotate_left
    · intro W' hSw
      go_simp
      try with_reducible rfl
    simp only [Act.put, List.setIfInBounds_toArray, List.set_cons_zero, List.set_cons_succ]
    refine wpAnyH_done (by kernel_rfl) ?_ _
    go_wp2
    go_ret
    exact ⟨rfl, (back9 hb).trans (hH4.mono (Nat.le_of_lt hz))⟩
  · go_simp
    have hHa : Below w1.heap.size w1 (w1.alloc (.cells #[.int .u8 0, .string ⟨#[]⟩, .int .i64 0, .int .i64 0, .int .i64 0, .int .i64 0, .int .i64 0, .int .u8 0, .bool false] 84)).drew := ((Below.refl w1.heap.size w1).alloc (Nat.le_refl _) _).drew
    refine hK.out _ _ hHa (fun _ => ?_)
    clear hK K
    refine wpAnyH_ready (rs := [5]) (by kernel_rfl) (by simp) ?_
    refine AllReadyH.cons rfl (fun K hK => ?_) AllReadyH.nil
    go_simp
    go_wp2_with (go_at_call 175; refine (keyOf_any k s u v r t ow ph g _).mono ?_; rintro e w2 ⟨rfl, hb2⟩)
    have hH2 : Below w1.heap.size w1 w2 := hHa.trans (hb2.mono (by simp))
    have hbz : w2.heap[w1.heap.size]? = some (.cells #[.int .u8 0, .string ⟨#[]⟩, .int .i64 0, .int .i64 0, .int .i64 0, .int .i64 0, .int .i64 0, .int .u8 0, .bool false] 84 (0, 0)) := (hb2.block w1.heap.size (by simp)).trans (alloc_last w1 _)
    obtain ⟨⟨n0, n1, n2, n3, n4, n5, n6, n7, n8⟩, nf⟩ := nine hbz
    have hlz : w1.heap.size < w2.heap.size := (Array.getElem?_eq_some_iff.1 hbz).1
    clear hb2 hbz
    refine hK.out _ _ hH2 (fun _ => ?_)
    clear hK K
    refine wpAnyH_take (i := 6) (oi := { dst := some 22, op := Op.lookup 105 (Operand.tmp 19) (Operand.tmp 21) true, type := 192, pos := "store.go:133", after := #[{ on := 3, ground := Ground.data }, { on := 5, ground := Ground.data }], guard := none }) (v := ?_) rfl (by kernel_rfl) (by kernel_rfl) (by kernel_rfl) (fun _ _ _ h => h) (Or.inl ⟨by rfl, ?_⟩) hH2 ?_
    rotate_left
    · intro W' hSw
      have hl := HLK.out W' hSw
      simp only [Ob.arr] at hl
      go_simp
      try with_reducible rfl
    simp only [Act.put, List.setIfInBounds_toArray, List.set_cons_zero, List.set_cons_succ]
    refine wpAnyH_take (i := 7) (oi := { dst := some 15, op := Op.move (Operand.tmp 22), type := 192, pos := "store.go:133", after := #[{ on := 6, ground := Ground.data }], guard := none }) (v := ?_) rfl (by kernel_rfl) (by kernel_rfl) (by kernel_rfl) (fun _ _ _ h => h) (Or.inl ⟨by rfl, ?_⟩) hH2 ?_
    rotate_left
    · intro W' hSw
      go_simp
      try with_reducible rfl
    simp only [Act.put, List.setIfInBounds_toArray, List.set_cons_zero, List.set_cons_succ]
    refine wpAnyH_take (i := 8) (oi := { dst := some 23, op := Op.extract (Operand.tmp 15) 0, type := 84, pos := "store.go:133", after := #[{ on := 7, ground := Ground.data }], guard := none }) (v := ?_) rfl (by kernel_rfl) (by kernel_rfl) (by kernel_rfl) (fun _ _ _ h => h) (Or.inl ⟨by rfl, ?_⟩) hH2 ?_
    rotate_left
    · intro W' hSw
      go_simp
      try with_reducible rfl
    simp only [Act.put, List.setIfInBounds_toArray, List.set_cons_zero, List.set_cons_succ]
    refine wpAnyH_take (i := 9) (oi := { dst := some 24, op := Op.extract (Operand.tmp 15) 1, type := 4, pos := "store.go:133", after := #[{ on := 7, ground := Ground.data }, { on := 11, ground := Ground.gcOnly Departure.lateStores }], guard := none }) (v := ?_) rfl (by kernel_rfl) (by kernel_rfl) (by kernel_rfl) (fun _ _ _ h => h) (Or.inl ⟨by rfl, ?_⟩) hH2 ?_
    rotate_left
    · intro W' hSw
      go_simp
      try with_reducible rfl
    simp only [Act.put, List.setIfInBounds_toArray, List.set_cons_zero, List.set_cons_succ]
    refine wpAnyH_ready (rs := [11]) (by kernel_rfl) (by simp) ?_
    refine AllReadyH.cons rfl (fun K hK => ?_) AllReadyH.nil
    go_simp
    have hH4 := set9_below hH2 (N := w1.heap.size) (Nat.le_refl _) (.int .u8 o.kind) (.string o.name) (.int .i64 o.uid) (.int .i64 o.version) (.int .i64 o.replicas) (.int .i64 o.status) (.int .i64 o.owner) (.int .u8 o.phase) (.bool o.gone)
    rw [set9_def] at hH4
    refine hK.out _ _ hH4 (fun _ => ?_)
    clear hK K
    refine wpAnyH_take (i := 12) (oi := { dst := some 6, op := Op.assign (Operand.tmp 24), type := 4, pos := "store.go:133", after := #[{ on := 9, ground := Ground.data }, { on := 11, ground := Ground.chain }, { on := 0, ground := Ground.phase }, { on := 1, ground := Ground.phase }, { on := 2, ground := Ground.phase }, { on := 3, ground := Ground.phase }, { on := 4, ground := Ground.phase }, { on := 5, ground := Ground.phase }, { on := 6, ground := Ground.phase }, { on := 7, ground := Ground.phase }, { on := 8, ground := Ground.phase }, { on := 9, ground := Ground.phase }, { on := 10, ground := Ground.phase }, { on := 11, ground := Ground.phase }], guard := none }) (v := ?_) rfl (by kernel_rfl) (by kernel_rfl) (by kernel_rfl) (fun _ _ _ h => h) (Or.inl ⟨by rfl, ?_⟩) hH4 ?_
    rotate_left
    · intro W' hSw
      go_simp
      try with_reducible rfl
    simp only [Act.put, List.setIfInBounds_toArray, List.set_cons_zero, List.set_cons_succ]
    refine wpAnyH_done (by kernel_rfl) ?_ _
    go_wp2
    go_ret
    exact ⟨rfl, (back9 hb).trans (hH4.mono (Nat.le_of_lt hz))⟩

set_option maxRecDepth 100000 in
set_option maxHeartbeats 1000000 in
theorem may_full (k : Int) (s : ByteArray) (u v r t ow ph : Int) (g : Bool) (w : World) (sb mb : Nat) (lim ver cre : Int) (log : List Value) (n : Nat) (D : DataW Unit) (h : IsStore w sb mb lim ver cre log n D) (hv : ver ≠ 600) (h0 : 0 ≤ k) (h1 : k ≤ 255) (hs : s.size ≤ maxLen) (hr : rightCrB k s r t ow ph = true) (ha : Out D k s) (ful : Bool) (hf : ((Maps.size D : Int) == lim) = ful) :
    Calls Tryz.prog 112 #[.pointer (some ⟨sb, 0, none⟩), .agg #[.int .u8 k, .string s, .int .i64 u, .int .i64 v, .int .i64 r, .int .i64 t, .int .i64 ow, .int .u8 ph, .bool g]] w fun e w' => e = .returned (.int .i64 (if ful then 5 else 0)) ∧ Below w.heap.size w w' := by
  have hv' : (ver == 600) = false := by simpa using hv
  have hc := fun W => rightToCreate_any k s u v r t ow ph g W hs
  simp only [hr] at hc
  have H : Hid (IsStore w sb mb lim ver cre log n D) := h
  clear h
  have HA : Hid (Out D k s) := ha
  clear ha hv
  cases ful
  all_goals
    go_enter Tryz.func112, Tryz.ntmps112
    go_wp2_with fail
    refine (hc _).mono ?_
    rintro e w1 ⟨rfl, hb⟩
    have hS1 : Hid (IsStore w1 sb mb lim ver cre log n D) := H.out.below (back9 hb)
    have c0 := hS1.out.c0
    have c1 := hS1.out.c1
    have c3 := hS1.out.c3
    have hz := lt_of_back hb
    have hsb := hS1.out.lt
    obtain ⟨⟨y0, y1, y2, y3, y4, y5, y6, y7, y8⟩, yf⟩ := nine ((hb.block w.heap.size (by simp)).trans (alloc_last w _))
    have HST : Hid (∀ W', Below w1.heap.size w1 W' → IsStore W' sb mb lim ver cre log n D) := fun W' hW => hS1.out.below hW
    have HLZ : Hid (w.heap.size < w1.heap.size ∧ sb < w1.heap.size) := ⟨hz, hsb⟩
    have HNK : Hid (∀ W', Below w1.heap.size w1 W' → (W'.cell? ⟨sb, 3, none⟩ = some (.map (some mb)) ∧ W'.cell? ⟨w.heap.size, 0, none⟩ = some (.int .u8 k) ∧ W'.cell? ⟨w.heap.size, 1, none⟩ = some (.string s) ∧ W'.cell? ⟨w.heap.size, 2, none⟩ = some (.int .i64 u) ∧ W'.cell? ⟨w.heap.size, 3, none⟩ = some (.int .i64 v) ∧ W'.cell? ⟨w.heap.size, 4, none⟩ = some (.int .i64 r) ∧ W'.cell? ⟨w.heap.size, 5, none⟩ = some (.int .i64 t) ∧ W'.cell? ⟨w.heap.size, 6, none⟩ = some (.int .i64 ow) ∧ W'.cell? ⟨w.heap.size, 7, none⟩ = some (.int .u8 ph) ∧ W'.cell? ⟨w.heap.size, 8, none⟩ = some (.bool g))) := fun W' hW => by
      have e1 : ∀ o, W'.cell? ⟨w.heap.size, o, none⟩ = w1.cell? ⟨w.heap.size, o, none⟩ := fun o => hW.cell (p := ⟨w.heap.size, o, none⟩) HLZ.out.1
      have e2 : W'.cell? ⟨sb, 3, none⟩ = w1.cell? ⟨sb, 3, none⟩ := hW.cell (p := ⟨sb, 3, none⟩) HLZ.out.2
      simp only [e1, e2]
      exact ⟨c3, y0, y1, y2, y3, y4, y5, y6, y7, y8⟩
    have HLK : Hid (∀ W', Below w1.heap.size w1 W' → (Instr.lookup 105 (.map (some mb)) (.agg #[.int .u8 k, .string s]) true).run Tryz.prog W' = .ok (.tuple #[.agg #[.int .u8 0, .string ⟨#[]⟩, .int .i64 0, .int .i64 0, .int .i64 0, .int .i64 0, .int .i64 0, .int .u8 0, .bool false], .bool false]) W') := fun W' hW => (HST.out W' hW).miss h0 h1 hs HA.out
    have hH0 : Below w1.heap.size w1 w1.drew := (Below.refl _ _).drew
    clear c3 y0 y1 y2 y3 y4 y5 y6 y7 y8 yf
    go_wp2_with fail
    refine wp_region_held_drew (S := fun w' => Below w1.heap.size w1 w') (by kernel_rfl) hH0 (fun _ => ?_)
    refine wpAnyH_take (i := 0) (oi := { dst := some 16, op := Op.move (Operand.tmp 0), type := 88, pos := "store.go:133", after := #[], guard := none }) (v := ?_) rfl (by kernel_rfl) (by kernel_rfl) (by kernel_rfl) (fun _ _ _ h => h) (Or.inl ⟨by rfl, ?_⟩) hH0 ?_
    rotate_left
    · intro W' hSw
      go_simp
      try with_reducible rfl
    simp only [Act.put, List.setIfInBounds_toArray, List.set_cons_zero, List.set_cons_succ]
    refine wpAnyH_take (i := 1) (oi := { dst := some 17, op := Op.nilCheck (Operand.tmp 16), type := 0, pos := "store.go:133", after := #[{ on := 0, ground := Ground.data }], guard := none }) (v := ?_) rfl (by kernel_rfl) (by kernel_rfl) (by kernel_rfl) (fun _ _ _ h => h) (Or.inl ⟨by rfl, ?_⟩) hH0 ?_
    rotate_left
    · intro W' hSw
      go_simp
      try with_reducible rfl
    simp only [Act.put, List.setIfInBounds_toArray, List.set_cons_zero, List.set_cons_succ]
    refine wpAnyH_take (i := 2) (oi := { dst := some 18, op := Op.fieldAddr 173 (Operand.tmp 17) 3, type := 0, pos := "store.go:133", after := #[{ on := 1, ground := Ground.data }], guard := none }) (v := ?_) rfl (by kernel_rfl) (by kernel_rfl) (by kernel_rfl) (fun _ _ _ h => h) (Or.inl ⟨by rfl, ?_⟩) hH0 ?_
    rotate_left
    · intro W' hSw
      go_simp
      try with_reducible rfl
    simp only [Act.put, List.setIfInBounds_toArray, List.set_cons_zero, List.set_cons_succ]
    refine wpAnyH_take (i := 3) (oi := { dst := some 19, op := Op.load 105 (Operand.tmp 18), type := 105, pos := "store.go:133", after := #[{ on := 2, ground := Ground.data }], guard := none }) (v := ?_) rfl (by kernel_rfl) (by kernel_rfl) (by kernel_rfl) (fun _ _ _ h => h) (Or.inl ⟨by rfl, ?_⟩) hH0 ?_
    rotate_left
    · intro W' hSw
      obtain ⟨f0, f1, f2, f3, f4, f5, f6, f7, f8, f9⟩ := HNK.out W' hSw
      go_simp
      try with_reducible rfl
    simp only [Act.put, List.setIfInBounds_toArray, List.set_cons_zero, List.set_cons_succ]
    refine wpAnyH_take (i := 4) (oi := { dst := some 20, op := Op.load 84 (Operand.tmp 3), type := 84, pos := "store.go:133", after := #[], guard := none }) (v := ?_) rfl (by kernel_rfl) (by kernel_rfl) (by kernel_rfl) (fun _ _ _ h => h) (Or.inl ⟨by rfl, ?_⟩) hH0 ?_
    rotate_left
    · intro W' hSw
      obtain ⟨f0, f1, f2, f3, f4, f5, f6, f7, f8, f9⟩ := HNK.out W' hSw
      go_simp
      try with_reducible rfl
    simp only [Act.put, List.setIfInBounds_toArray, List.set_cons_zero, List.set_cons_succ]
    refine wpAnyH_ready (rs := [5, 10]) (by kernel_rfl) (by simp) ?_
    refine AllReadyH.cons rfl (fun K hK => ?_) (AllReadyH.cons rfl (fun K hK => ?_) AllReadyH.nil)
    · go_simp
      go_wp2_with (go_at_call 175; refine (keyOf_any k s u v r t ow ph g _).mono ?_; rintro e w2 ⟨rfl, hb2⟩)
      have hH2 : Below w1.heap.size w1 w2 := hH0.trans (show Below w1.heap.size w1.drew w2 from hb2)
      clear hb2
      refine hK.out _ _ hH2 (fun _ => ?_)
      clear hK K
      refine wpAnyH_take (i := 6) (oi := { dst := some 22, op := Op.lookup 105 (Operand.tmp 19) (Operand.tmp 21) true, type := 192, pos := "store.go:133", after := #[{ on := 3, ground := Ground.data }, { on := 5, ground := Ground.data }], guard := none }) (v := ?_) rfl (by kernel_rfl) (by kernel_rfl) (by kernel_rfl) (fun _ _ _ h => h) (Or.inl ⟨by rfl, ?_⟩) hH2 ?_
      rotate_left
      · intro W' hSw
        have hl := HLK.out W' hSw
        go_simp
        try with_reducible rfl
      simp only [Act.put, List.setIfInBounds_toArray, List.set_cons_zero, List.set_cons_succ]
      refine wpAnyH_take (i := 7) (oi := { dst := some 15, op := Op.move (Operand.tmp 22), type := 192, pos := "store.go:133", after := #[{ on := 6, ground := Ground.data }], guard := none }) (v := ?_) rfl (by kernel_rfl) (by kernel_rfl) (by kernel_rfl) (fun _ _ _ h => h) (Or.inl ⟨by rfl, ?_⟩) hH2 ?_
      rotate_left
      · intro W' hSw
        go_simp
        try with_reducible rfl
      simp only [Act.put, List.setIfInBounds_toArray, List.set_cons_zero, List.set_cons_succ]
      refine wpAnyH_take (i := 8) (oi := { dst := some 23, op := Op.extract (Operand.tmp 15) 0, type := 84, pos := "store.go:133", after := #[{ on := 7, ground := Ground.data }], guard := none }) (v := ?_) rfl (by kernel_rfl) (by kernel_rfl) (by kernel_rfl) (fun _ _ _ h => h) (Or.inl ⟨by rfl, ?_⟩) hH2 ?_
      rotate_left
      · intro W' hSw
        go_simp
        try with_reducible rfl
      simp only [Act.put, List.setIfInBounds_toArray, List.set_cons_zero, List.set_cons_succ]
      refine wpAnyH_take (i := 9) (oi := { dst := some 24, op := Op.extract (Operand.tmp 15) 1, type := 4, pos := "store.go:133", after := #[{ on := 7, ground := Ground.data }, { on := 11, ground := Ground.gcOnly Departure.lateStores }], guard := none }) (v := ?_) rfl (by kernel_rfl) (by kernel_rfl) (by kernel_rfl) (fun _ _ _ h => h) (Or.inl ⟨by rfl, ?_⟩) hH2 ?_
      rotate_left
      · intro W' hSw
        go_simp
        try with_reducible rfl
      simp only [Act.put, List.setIfInBounds_toArray, List.set_cons_zero, List.set_cons_succ]
      refine wpAnyH_ready (rs := [10]) (by kernel_rfl) (by simp) ?_
      refine AllReadyH.cons rfl (fun K hK => ?_) AllReadyH.nil
      go_simp
      have hH3 := hH2.alloc hH2.size (.cells #[.int .u8 0, .string ⟨#[]⟩, .int .i64 0, .int .i64 0, .int .i64 0, .int .i64 0, .int .i64 0, .int .u8 0, .bool false] 84)
      refine hK.out _ _ hH3 (fun _ => ?_)
      clear hK K
      refine wpAnyH_ready (rs := [11]) (by kernel_rfl) (by simp) ?_
      refine AllReadyH.cons rfl (fun K hK => ?_) AllReadyH.nil
      go_simp
      have hH4 : Below w1.heap.size w1 (w2.alloc (.cells #[.int .u8 0, .string ⟨#[]⟩, .int .i64 0, .int .i64 0, .int .i64 0, .int .i64 0, .int .i64 0, .int .u8 0, .bool false] 84)) := hH2.alloc hH2.size _
      refine hK.out _ _ hH4 (fun _ => ?_)
      clear hK K
      refine wpAnyH_take (i := 12) (oi := { dst := some 6, op := Op.assign (Operand.tmp 24), type := 4, pos := "store.go:133", after := #[{ on := 9, ground := Ground.data }, { on := 11, ground := Ground.chain }, { on := 0, ground := Ground.phase }, { on := 1, ground := Ground.phase }, { on := 2, ground := Ground.phase }, { on := 3, ground := Ground.phase }, { on := 4, ground := Ground.phase }, { on := 5, ground := Ground.phase }, { on := 6, ground := Ground.phase }, { on := 7, ground := Ground.phase }, { on := 8, ground := Ground.phase }, { on := 9, ground := Ground.phase }, { on := 10, ground := Ground.phase }, { on := 11, ground := Ground.phase }], guard := none }) (v := ?_) rfl (by kernel_rfl) (by kernel_rfl) (by kernel_rfl) (fun _ _ _ h => h) (Or.inl ⟨by rfl, ?_⟩) hH4 ?_
      rotate_left
      · intro W' hSw
        go_simp
        try with_reducible rfl
      simp only [Act.put, List.setIfInBounds_toArray, List.set_cons_zero, List.set_cons_succ]
      refine wpAnyH_done (by kernel_rfl) ?_ _
      generalize w2.alloc (.cells #[.int .u8 0, .string ⟨#[]⟩, .int .i64 0, .int .i64 0, .int .i64 0, .int .i64 0, .int .i64 0, .int .u8 0, .bool false] 84) = X at *
      have hSX := HST.out X hH4
      have c0 := hSX.c0
      have c3 := hSX.c3
      have hsx := hSX.lt
      have hlen := fun ty => hSX.drew.map.len Tryz.underlying105 ty
      have hlen2 := fun ty => hSX.map.len Tryz.underlying105 ty
      clear hSX
      go_wp2
      go_region
      go_wp2
      go_ret
      exact ⟨rfl, (back9 hb).trans ((hH4.mono (Nat.le_of_lt hz)).drew)⟩
    · go_simp
      have hHa : Below w1.heap.size w1 (w1.alloc (.cells #[.int .u8 0, .string ⟨#[]⟩, .int .i64 0, .int .i64 0, .int .i64 0, .int .i64 0, .int .i64 0, .int .u8 0, .bool false] 84)).drew := ((Below.refl w1.heap.size w1).alloc (Nat.le_refl _) _).drew
      refine hK.out _ _ hHa (fun _ => ?_)
      clear hK K
      refine wpAnyH_ready (rs := [5]) (by kernel_rfl) (by simp) ?_
      refine AllReadyH.cons rfl (fun K hK => ?_) AllReadyH.nil
      go_simp
      go_wp2_with (go_at_call 175; refine (keyOf_any k s u v r t ow ph g _).mono ?_; rintro e w2 ⟨rfl, hb2⟩)
      have hH2 : Below w1.heap.size w1 w2 := hHa.trans (hb2.mono (by simp))
      have hbz : w2.heap[w1.heap.size]? = some (.cells #[.int .u8 0, .string ⟨#[]⟩, .int .i64 0, .int .i64 0, .int .i64 0, .int .i64 0, .int .i64 0, .int .u8 0, .bool false] 84 (0, 0)) := (hb2.block w1.heap.size (by simp)).trans (alloc_last w1 _)
      obtain ⟨⟨n0, n1, n2, n3, n4, n5, n6, n7, n8⟩, nf⟩ := nine hbz
      have hlz : w1.heap.size < w2.heap.size := (Array.getElem?_eq_some_iff.1 hbz).1
      clear hb2 hbz
      refine hK.out _ _ hH2 (fun _ => ?_)
      clear hK K
      refine wpAnyH_take (i := 6) (oi := { dst := some 22, op := Op.lookup 105 (Operand.tmp 19) (Operand.tmp 21) true, type := 192, pos := "store.go:133", after := #[{ on := 3, ground := Ground.data }, { on := 5, ground := Ground.data }], guard := none }) (v := ?_) rfl (by kernel_rfl) (by kernel_rfl) (by kernel_rfl) (fun _ _ _ h => h) (Or.inl ⟨by rfl, ?_⟩) hH2 ?_
      rotate_left
      · intro W' hSw
        have hl := HLK.out W' hSw
        go_simp
        try with_reducible rfl
      simp only [Act.put, List.setIfInBounds_toArray, List.set_cons_zero, List.set_cons_succ]
      refine wpAnyH_take (i := 7) (oi := { dst := some 15, op := Op.move (Operand.tmp 22), type := 192, pos := "store.go:133", after := #[{ on := 6, ground := Ground.data }], guard := none }) (v := ?_) rfl (by kernel_rfl) (by kernel_rfl) (by kernel_rfl) (fun _ _ _ h => h) (Or.inl ⟨by rfl, ?_⟩) hH2 ?_
      rotate_left
      · intro W' hSw
        go_simp
        try with_reducible rfl
      simp only [Act.put, List.setIfInBounds_toArray, List.set_cons_zero, List.set_cons_succ]
      refine wpAnyH_take (i := 8) (oi := { dst := some 23, op := Op.extract (Operand.tmp 15) 0, type := 84, pos := "store.go:133", after := #[{ on := 7, ground := Ground.data }], guard := none }) (v := ?_) rfl (by kernel_rfl) (by kernel_rfl) (by kernel_rfl) (fun _ _ _ h => h) (Or.inl ⟨by rfl, ?_⟩) hH2 ?_
      rotate_left
      · intro W' hSw
        go_simp
        try with_reducible rfl
      simp only [Act.put, List.setIfInBounds_toArray, List.set_cons_zero, List.set_cons_succ]
      refine wpAnyH_take (i := 9) (oi := { dst := some 24, op := Op.extract (Operand.tmp 15) 1, type := 4, pos := "store.go:133", after := #[{ on := 7, ground := Ground.data }, { on := 11, ground := Ground.gcOnly Departure.lateStores }], guard := none }) (v := ?_) rfl (by kernel_rfl) (by kernel_rfl) (by kernel_rfl) (fun _ _ _ h => h) (Or.inl ⟨by rfl, ?_⟩) hH2 ?_
      rotate_left
      · intro W' hSw
        go_simp
        try with_reducible rfl
      simp only [Act.put, List.setIfInBounds_toArray, List.set_cons_zero, List.set_cons_succ]
      refine wpAnyH_ready (rs := [11]) (by kernel_rfl) (by simp) ?_
      refine AllReadyH.cons rfl (fun K hK => ?_) AllReadyH.nil
      go_simp
      have hH4 := set9_below hH2 (N := w1.heap.size) (Nat.le_refl _) (.int .u8 0) (.string ⟨#[]⟩) (.int .i64 0) (.int .i64 0) (.int .i64 0) (.int .i64 0) (.int .i64 0) (.int .u8 0) (.bool false)
      rw [set9_def] at hH4
      refine hK.out _ _ hH4 (fun _ => ?_)
      clear hK K
      refine wpAnyH_take (i := 12) (oi := { dst := some 6, op := Op.assign (Operand.tmp 24), type := 4, pos := "store.go:133", after := #[{ on := 9, ground := Ground.data }, { on := 11, ground := Ground.chain }, { on := 0, ground := Ground.phase }, { on := 1, ground := Ground.phase }, { on := 2, ground := Ground.phase }, { on := 3, ground := Ground.phase }, { on := 4, ground := Ground.phase }, { on := 5, ground := Ground.phase }, { on := 6, ground := Ground.phase }, { on := 7, ground := Ground.phase }, { on := 8, ground := Ground.phase }, { on := 9, ground := Ground.phase }, { on := 10, ground := Ground.phase }, { on := 11, ground := Ground.phase }], guard := none }) (v := ?_) rfl (by kernel_rfl) (by kernel_rfl) (by kernel_rfl) (fun _ _ _ h => h) (Or.inl ⟨by rfl, ?_⟩) hH4 ?_
      rotate_left
      · intro W' hSw
        go_simp
        try with_reducible rfl
      simp only [Act.put, List.setIfInBounds_toArray, List.set_cons_zero, List.set_cons_succ]
      refine wpAnyH_done (by kernel_rfl) ?_ _
      generalize ((((((((w2.setCell ⟨w1.heap.size, 0, none⟩ (.int .u8 0)).setCell ⟨w1.heap.size, 1, none⟩ (.string ⟨#[]⟩)).setCell ⟨w1.heap.size, 2, none⟩ (.int .i64 0)).setCell ⟨w1.heap.size, 3, none⟩ (.int .i64 0)).setCell ⟨w1.heap.size, 4, none⟩ (.int .i64 0)).setCell ⟨w1.heap.size, 5, none⟩ (.int .i64 0)).setCell ⟨w1.heap.size, 6, none⟩ (.int .i64 0)).setCell ⟨w1.heap.size, 7, none⟩ (.int .u8 0)).setCell ⟨w1.heap.size, 8, none⟩ (.bool false) = X at *
      have hSX := HST.out X hH4
      have c0 := hSX.c0
      have c3 := hSX.c3
      have hsx := hSX.lt
      have hlen := fun ty => hSX.drew.map.len Tryz.underlying105 ty
      have hlen2 := fun ty => hSX.map.len Tryz.underlying105 ty
      clear hSX
      go_wp2
      go_region
      go_wp2
      go_ret
      exact ⟨rfl, (back9 hb).trans ((hH4.mono (Nat.le_of_lt hz)).drew)⟩

end Go.Proofs.YtdgfjneapialdaaGreatDoor.S
