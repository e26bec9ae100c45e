import Derived.Test.YtcahhfphnenckaaDoorSn
import Derived.Test.YtcahhfphnenckaaDoorShelf
import Derived.Lib.ItoaLen
namespace Go.Proofs.YtcahhfphnenckaaDoor
open Go Go.RowKit Go.Maps

/-- The library's table of powers lies as its text has it. -/
def Tab (w : World) : Prop := Lib.TabIs Tryd.prog w "internal/strconv.uint64pow10" .u64 Lib.pow10Tab

theorem g1 : Tryd.prog.globalNamed "internal/strconv.uint64pow10" = some 1 := by kernel_rfl
theorem Tab.keep {w w' : World} (h : Tab w) (hb : w'.heap[1]? = w.heap[1]?) : Tab w' := by
  unfold Tab Lib.TabIs World.var? at *
  rw [g1] at *
  simp only [Option.bind_some] at h ⊢
  rw [hb]
  exact h
theorem below_grown (w : World) (q : Nat) (os : Array Obj) : Below w.heap.size w (Go.Sort.grow (w.drewN q) os) :=
  ⟨rfl, rfl, rfl, by simp [Go.Sort.grow], fun k hk => by simp [Go.Sort.grow, Array.getElem?_append, hk]⟩
theorem Tab.below {w w' : World} (h : Tab w) (hB : 1 < w.heap.size) (hb : Below w.heap.size w w') : Tab w' := h.keep (hb.block 1 hB)

set_option maxHeartbeats 400000 in
theorem clone_any (s : ByteArray) (w : World) (hs : s.size ≤ 281474976710656) :
    Calls Tryd.prog 29 #[.string s] w fun e w' => e = .returned (.string s) ∧ Below w.heap.size w w' := by
  have hc := Tryd.stringslite_Clone s w hs
  go_enter Tryd.func29, Tryd.ntmps29
  go_wp2_with fail
  refine hc.mono ?_
  rintro e w1 ⟨rfl, hb⟩
  go_wp2
  go_ret
  exact ⟨rfl, hb⟩

def podName (u : Int) : ByteArray := ⟨#[112]⟩ ++ ⟨(Lib.itoa u).toArray⟩

set_option maxHeartbeats 400000 in
theorem ownName_set (s : ByteArray) (u v r t ow ph : Int) (g : Bool) (w : World) (hs : s.size ≤ 281474976710656) :
    Calls Tryd.prog 16 #[.agg #[.int .u8 0, .string s, .int .i64 u, .int .i64 v, .int .i64 r, .int .i64 t, .int .i64 ow, .int .u8 ph, .bool g]] w fun e w' => e = .returned (.string s) ∧ Below w.heap.size w w' := by
  have hc := fun W => clone_any s W hs
  go_enter Tryd.func16, Tryd.ntmps16
  go_wp2_with fail
  refine (hc _).mono ?_
  rintro e w1 ⟨rfl, hb⟩
  go_wp2
  go_ret
  exact ⟨rfl, back9 hb⟩

set_option maxHeartbeats 400000 in
theorem ownName_pod (s : ByteArray) (u v r t ow ph : Int) (g : Bool) (w : World) (hT : Tab w) (hB : 1 < w.heap.size) (h0 : 0 ≤ u) (h1 : u ≤ 100000) :
    Calls Tryd.prog 16 #[.agg #[.int .u8 1, .string s, .int .i64 u, .int .i64 v, .int .i64 r, .int .i64 t, .int .i64 ow, .int .u8 ph, .bool g]] w fun e w' => e = .returned (.string (podName u)) ∧ Below w.heap.size w w' := by
  have hc := fun o => Tryd.strconv_Itoa u (by omega) (by omega) (w.alloc o) (Tab.keep hT (Below.heap_alloc _ _ _ hB))
  have hl : (Lib.itoa u).length ≤ 21 := Lib.itoa_length_le u (by omega) (by omega)
  have hsz : (⟨(Lib.itoa u).toArray⟩ : ByteArray).size ≤ 21 := hl
  go_enter Tryd.func16, Tryd.ntmps16
  go_wp2_with fail
  refine (hc _).mono ?_
  rintro e w1 ⟨rfl, q, os, rfl⟩
  go_wp2
  go_ret
  exact ⟨rfl, back9 (below_grown _ _ _)⟩

def crErr (bad : Bool) (ver : Int) (is : Bool) (sz lim : Int) : Int := if bad then 1 else if ver = 600 then 6 else if is then 2 else if sz = lim then 5 else 0

set_option maxHeartbeats 400000 in
theorem may_invalid (k : Int) (s : ByteArray) (u v r t ow ph : Int) (g : Bool) (w : World) (sb : Nat) (hs : s.size ≤ maxLen) (hr : rightCrB k s r t ow ph = false) :
    Calls Tryd.prog 15 #[.pointer (some ⟨sb, 0, none⟩), .agg #[.int .u8 k, .string s, .int .i64 u, .int .i64 v, .int .i64 r, .int .i64 t, .int .i64 ow, .int .u8 ph, .bool g]] w fun e w' => e = .returned (.int .i64 1) ∧ Below w.heap.size w w' := by
  have hc := fun W => rightToCreate_any k s u v r t ow ph g W hs
  simp only [hr] at hc
  go_enter Tryd.func15, Tryd.ntmps15
  go_wp2_with fail
  refine (hc _).mono ?_
  rintro e w1 ⟨rfl, hb⟩
  go_wp2
  go_ret
  exact ⟨rfl, back9 hb⟩

set_option maxHeartbeats 400000 in
theorem may_old (k : Int) (s : ByteArray) (u v r t ow ph : Int) (g : Bool) (w : World) (sb mb : Nat) (lim ver cre : Int) (log : List Value) (n : Nat) (D : DataW Unit) (h : IsStore w sb mb lim ver cre log n D) (hv : ver = 600) (hs : s.size ≤ maxLen) (hr : rightCrB k s r t ow ph = true) :
    Calls Tryd.prog 15 #[.pointer (some ⟨sb, 0, none⟩), .agg #[.int .u8 k, .string s, .int .i64 u, .int .i64 v, .int .i64 r, .int .i64 t, .int .i64 ow, .int .u8 ph, .bool g]] w fun e w' => e = .returned (.int .i64 6) ∧ Below w.heap.size w w' := by
  subst hv
  have hc := fun W => rightToCreate_any k s u v r t ow ph g W hs
  simp only [hr] at hc
  have H : Hid (IsStore w sb mb lim 600 cre log n D) := h
  clear h
  go_enter Tryd.func15, Tryd.ntmps15
  go_wp2_with fail
  refine (hc _).mono ?_
  rintro e w1 ⟨rfl, hb⟩
  have c1 := (H.out.below (back9 hb)).c1
  go_wp2
  go_ret
  exact ⟨rfl, back9 hb⟩

set_option maxHeartbeats 1000000 in
theorem may_exists (k : Int) (s : ByteArray) (u v r t ow ph : Int) (g : Bool) (w : World) (sb mb : Nat) (lim ver cre : Int) (log : List Value) (n : Nat) (D : DataW Unit) (o : Ob) (h : IsStore w sb mb lim ver cre log n D) (hv : ver ≠ 600) (h0 : 0 ≤ k) (h1 : k ≤ 255) (hs : s.size ≤ maxLen) (hr : rightCrB k s r t ow ph = true) (ha : At D k s o) :
    Calls Tryd.prog 15 #[.pointer (some ⟨sb, 0, none⟩), .agg #[.int .u8 k, .string s, .int .i64 u, .int .i64 v, .int .i64 r, .int .i64 t, .int .i64 ow, .int .u8 ph, .bool g]] w fun e w' => e = .returned (.int .i64 2) ∧ Below w.heap.size w w' := by
  have hv' : (ver == 600) = false := by simpa using hv
  have hc := fun W => rightToCreate_any k s u v r t ow ph g W hs
  simp only [hr] at hc
  have H : Hid (IsStore w sb mb lim ver cre log n D) := h
  clear h
  have HA : Hid (At D k s o) := ha
  clear ha hv
  go_enter Tryd.func15, Tryd.ntmps15
  go_wp2_with fail
  refine (hc _).mono ?_
  rintro e w1 ⟨rfl, hb⟩
  have hS1 : Hid (IsStore w1 sb mb lim ver cre log n D) := H.out.below (back9 hb)
  have c1 := hS1.out.c1
  have c3 := hS1.out.c3
  have hz := lt_of_back hb
  have hsb := hS1.out.lt
  obtain ⟨⟨y0, y1, y2, y3, y4, y5, y6, y7, y8⟩, yf⟩ := nine ((hb.block w.heap.size (by simp)).trans (alloc_last w _))
  have hl1 := hS1.out.drew.hit h0 h1 hs HA.out
  have hl2 := fun ob => (hS1.out.alloc ob).drew.hit h0 h1 hs HA.out
  simp only [Ob.arr] at hl1 hl2
  go_wp2
  go_region
  go_wp2
  go_ret
  exact ⟨rfl, (belowAl (back9 hb) _).drew⟩

set_option maxRecDepth 100000 in
set_option maxHeartbeats 1000000 in
theorem may_full (k : Int) (s : ByteArray) (u v r t ow ph : Int) (g : Bool) (w : World) (sb mb : Nat) (lim ver cre : Int) (log : List Value) (n : Nat) (D : DataW Unit) (h : IsStore w sb mb lim ver cre log n D) (hv : ver ≠ 600) (h0 : 0 ≤ k) (h1 : k ≤ 255) (hs : s.size ≤ maxLen) (hr : rightCrB k s r t ow ph = true) (ha : Out D k s) (ful : Bool) (hf : ((Maps.size D : Int) == lim) = ful) :
    Calls Tryd.prog 15 #[.pointer (some ⟨sb, 0, none⟩), .agg #[.int .u8 k, .string s, .int .i64 u, .int .i64 v, .int .i64 r, .int .i64 t, .int .i64 ow, .int .u8 ph, .bool g]] w fun e w' => e = .returned (.int .i64 (if ful then 5 else 0)) ∧ Below w.heap.size w w' := by
  have hv' : (ver == 600) = false := by simpa using hv
  have hc := fun W => rightToCreate_any k s u v r t ow ph g W hs
  simp only [hr] at hc
  have H : Hid (IsStore w sb mb lim ver cre log n D) := h
  clear h
  have HA : Hid (Out D k s) := ha
  clear ha hv
  cases ful
  all_goals
    go_enter Tryd.func15, Tryd.ntmps15
    go_wp2_with fail
    refine (hc _).mono ?_
    rintro e w1 ⟨rfl, hb⟩
    have hS1 : Hid (IsStore w1 sb mb lim ver cre log n D) := H.out.below (back9 hb)
    have c0 := hS1.out.c0
    have c1 := hS1.out.c1
    have c3 := hS1.out.c3
    have hz := lt_of_back hb
    have hsb := hS1.out.lt
    obtain ⟨⟨y0, y1, y2, y3, y4, y5, y6, y7, y8⟩, yf⟩ := nine ((hb.block w.heap.size (by simp)).trans (alloc_last w _))
    have hl1 := hS1.out.drew.miss h0 h1 hs HA.out
    have hl2 := fun ob => (hS1.out.alloc ob).drew.miss h0 h1 hs HA.out
    have hlen := fun ob ty => (hS1.out.alloc ob).drew.drew.map.len Tryd.underlying47 ty
    have hlen2 := fun ob ty => (hS1.out.alloc ob).drew.map.len Tryd.underlying47 ty
    go_wp2
    go_region
    go_wp2
    go_region
    go_wp2
    go_ret
    exact ⟨rfl, (belowAl (back9 hb) _).drew.drew⟩

end Go.Proofs.YtcahhfphnenckaaDoor
