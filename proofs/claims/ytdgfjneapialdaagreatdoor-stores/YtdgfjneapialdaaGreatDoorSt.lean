import Derived.Test.YtdgfjneapialdaaGreatDoorSk
import Derived.Test.YtdgfjneapialdaaGreatDoorShelfS
namespace Go.Proofs.YtdgfjneapialdaaGreatDoor.S
open Go Go.RowKit Go.Maps Go.Lib Go.Sort Go.Shelf

/-- Objects of one kind. -/
abbrev Obk (k : Int) : Type := { o : Ob // o.kind = k }
def Obk.enc {k : Int} (x : Obk k) : List Value := x.1.arr.toList
def cfk (k : Int) (x y : Obk k) : Int := if k = 1 then Lib.compareInt x.1.uid y.1.uid else Lib.compareBytes x.1.name.data.toList y.1.name.data.toList

theorem cmpB_lt : ∀ a b : List UInt8, (Lib.compareBytes a b < 0) ↔ a < b
  | [], [] => by simp [Lib.compareBytes]
  | [], _ :: _ => by simp [Lib.compareBytes]
  | _ :: _, [] => by simp [Lib.compareBytes]
  | x :: a, y :: b => by
    have ih := cmpB_lt a b
    rw [Lib.compareBytes, List.cons_lt_cons_iff]
    split
    · rename_i h
      simp [h]
    · rename_i h
      split
      · rename_i h2
        constructor
        · intro h3; exact absurd h3 (by decide)
        · rintro (h3 | ⟨h3, _⟩)
          · exact absurd h3 h
          · subst h3; exact absurd h2 (UInt8.lt_irrefl _)
      · rename_i h2
        have : x = y := UInt8.le_antisymm (UInt8.not_lt.1 h2) (UInt8.not_lt.1 h)
        subst this
        rw [ih]
        simp

theorem swok (k : Int) : SWO (ltOf (cfk k)) := by
  by_cases hk : k = 1
  · have e : ∀ x y : Obk k, ltOf (cfk k) x y = decide (x.1.uid < y.1.uid) := by
      intro x y
      unfold ltOf cfk Lib.compareInt
      rw [if_pos hk]
      by_cases h1 : x.1.uid < y.1.uid
      · simp [h1]
      · by_cases h2 : y.1.uid < x.1.uid <;> simp [h1, h2]
    exact ⟨fun x => by rw [e]; simp, fun x y z h1 h2 => by rw [e] at *; simp at *; omega, fun x y z h1 h2 => by rw [e] at *; simp at *; omega⟩
  · have e : ∀ x y : Obk k, ltOf (cfk k) x y = decide (x.1.name.data.toList < y.1.name.data.toList) := by
      intro x y
      unfold ltOf cfk
      rw [if_neg hk]
      exact decide_eq_decide.2 (cmpB_lt _ _)
    refine ⟨fun x => by rw [e]; simp [List.lt_irrefl], fun x y z h1 h2 => ?_, fun x y z h1 h2 => ?_⟩
    · rw [e] at *; simp only [decide_eq_true_eq] at *; exact List.lt_trans h1 h2
    · rw [e] at *; simp only [decide_eq_false_iff_not, List.not_lt] at *; exact List.le_trans h2 h1

set_option maxHeartbeats 400000 in
theorem inOrder_pod (s : ByteArray) (u v r t ow ph : Int) (g : Bool) (s' : ByteArray) (u' v' r' t' ow' ph' : Int) (g' : Bool) (W : World) :
    Calls Tryz.prog 102 #[.agg #[.int .u8 1, .string s, .int .i64 u, .int .i64 v, .int .i64 r, .int .i64 t, .int .i64 ow, .int .u8 ph, .bool g], .agg #[.int .u8 1, .string s', .int .i64 u', .int .i64 v', .int .i64 r', .int .i64 t', .int .i64 ow', .int .u8 ph', .bool g']] W fun e w' => e = .returned (.int .i64 (Lib.compareInt u u')) ∧ ∃ q os', w' = grow (W.drewN q) os' := by
  have hc := fun W => Tryz.cmp_Compare_int u u' W
  generalize Lib.compareInt u u' = c at hc ⊢
  go_enter Tryz.func102, Tryz.ntmps102
  go_wp2_with fail
  refine (hc _).mono ?_
  rintro e w' ⟨rfl, rfl⟩
  go_wp2
  go_ret
  exact ⟨rfl, 0, _, by rw [alloc_eq_grow, alloc_eq_grow, grow_grow]; rfl⟩

set_option maxHeartbeats 400000 in
theorem inOrder_set (k : Int) (hk : k ≠ 1) (s : ByteArray) (u v r t ow ph : Int) (g : Bool) (s' : ByteArray) (u' v' r' t' ow' ph' : Int) (g' : Bool) (W : World) :
    Calls Tryz.prog 102 #[.agg #[.int .u8 k, .string s, .int .i64 u, .int .i64 v, .int .i64 r, .int .i64 t, .int .i64 ow, .int .u8 ph, .bool g], .agg #[.int .u8 k, .string s', .int .i64 u', .int .i64 v', .int .i64 r', .int .i64 t', .int .i64 ow', .int .u8 ph', .bool g']] W fun e w' => e = .returned (.int .i64 (Lib.compareBytes s.data.toList s'.data.toList)) ∧ ∃ q os', w' = grow (W.drewN q) os' := by
  have hk' : (k == 1) = false := by simpa using hk
  clear hk
  have hc := fun W => Tryz.strings_Compare s s' W
  generalize Lib.compareBytes s.data.toList s'.data.toList = c at hc ⊢
  go_enter Tryz.func102, Tryz.ntmps102
  go_wp2_with fail
  refine (hc _).mono ?_
  rintro e w' ⟨rfl, rfl⟩
  go_wp2
  go_ret
  exact ⟨rfl, 0, _, by rw [alloc_eq_grow, alloc_eq_grow, grow_grow]; rfl⟩

theorem cmpLays (k : Int) [Inhabited (Obk k)] (blk off size : Nat) (w : World) : CmpLays Tryz.prog 102 #[] (Obk.enc (k := k)) 9 (cfk k) blk off size w := by
  rintro m os dk _ ⟨⟨x0, x1, x2, x3, x4, x5, x6, x7, x8⟩, hx⟩ ⟨⟨y0, y1, y2, y3, y4, y5, y6, y7, y8⟩, hy⟩
  subst hx
  simp only at hy
  subst hy
  unfold cfk
  by_cases hk : y0 = 1
  · subst hk
    exact inOrder_pod x1 x2 x3 x4 x5 x6 x7 x8 y1 y2 y3 y4 y5 y6 y7 y8 _
  · rw [if_neg hk]
    exact inOrder_set y0 hk x1 x2 x3 x4 x5 x6 x7 x8 y1 y2 y3 y4 y5 y6 y7 y8 _

theorem oneCells {k : Int} (x : Obk k) : ∀ v ∈ x.enc, v.oneCell' = true := by
  intro v hv
  simp only [Obk.enc, Ob.arr, List.mem_cons, List.not_mem_nil, or_false] at hv
  rcases hv with rfl | rfl | rfl | rfl | rfl | rfl | rfl | rfl | rfl <;> rfl

theorem sort_ob (k : Int) [Inhabited (Obk k)] (blk cap : Nat) (d : Array (Obk k)) (w : World) (hH : HoldsK (Obk.enc (k := k)) 9 w blk 0 d) (hblk : blk < w.heap.size) (hsz : d.size < 4611686018427387904) :
    Calls Tryz.prog 103 #[.slice (some ⟨blk, 0, none⟩) d.size cap, .func (.func 102) #[] #[]] w fun e w' =>
      e = .returned (.tuple #[]) ∧ ∃ d' n os, d'.toList.Perm d.toList ∧ d'.size = d.size ∧ (d'.toList.Pairwise fun a b => ltOf (cfk k) b a = false) ∧ w' = sortWorldK (Obk.enc (k := k)) 9 w blk 0 n d' os := by
  have eg : ∀ args w, (callFunc 102 args).run Tryz.prog w = .ok (.enter 102 args) w := enters_of Tryz.func102 (by kernel_rfl) rfl
  have hcon := AnyQ.slices_SortFunc Tryz.sortOb 9 Tryz.isAgg84 Tryz.sizeOf84 (Obk.enc (k := k)) (fun _ => rfl) oneCells (cfk k) (swok k) 102 #[] blk 0 cap d w eg (cmpLays k blk 0 d.size w) hH hblk hsz
  refine Calls.mono hcon ?_
  rintro e w' ⟨he, d', n, os, hp, hs, hw⟩
  obtain ⟨h1, _, h3⟩ := hp
  rw [Array.extract_eq_self_of_le (by omega), Array.extract_eq_self_of_le (Nat.le_refl _)] at h3
  refine ⟨he, d', n, os, h3, h1, ?_, hw⟩
  rw [List.pairwise_iff_getElem]
  intro i j hi hj hij
  have := hs i j (Nat.zero_le _) hij (by simpa [h1] using hj)
  simp at hi hj
  simpa [getElem!_pos, hi, hj] using this

end Go.Proofs.YtdgfjneapialdaaGreatDoor.S
