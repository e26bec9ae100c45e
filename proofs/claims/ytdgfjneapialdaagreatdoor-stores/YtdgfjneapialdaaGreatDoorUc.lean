import Derived.Test.YtdgfjneapialdaaGreatDoorUb
import Derived.Deep.MidRow
import Derived.Test.YtdgfjneapialdaaGreatDoorRows
import Derived.Test.YtdgfjneapialdaaGreatDoorCards
import Derived.Test.YtdgfjneapialdaaGreatDoorTie
import Derived.ProofKit
import Derived.LaidMore
import Derived.OpenShut
import Derived.SizedLaws
import Derived.Stop.Joined
import Derived.Stop.LaidErr
import Derived.Deep.Slices
import Derived.Deep.Strs
import Derived.SevenTiedAt
import Derived.ChangeMaps5
import Derived.Deep.DeepHandedRow
import Derived.Lib.LaidTab
namespace Go.Proofs.YtdgfjneapialdaaGreatDoor.S
open Go Go.ChangeShapes Go.WideShapes Go.ChangeAt Go.RowKit

/-- The script lies in memory. -/
structure StepsAt (w : World) (b off len : Nat) (st : Nat → St) : Prop where
  lt : b < w.heap.size
  c : ∀ i, i < len → ∀ j, j < 21 → w.cell? ⟨b, off + i * 21 + j, none⟩ = (st i).arr[j]?

theorem own : ownKnob Tryz.prog.godebug = none := by kernel_rfl
theorem tPow : (Tryz.prog.globals[1]?).map (·.type) = some 304 := by kernel_rfl
theorem cells223 : Tryz.prog.cellsOf 264 = 1 := by kernel_rfl
theorem cells259 : Tryz.prog.cellsOf 304 = 20 := by kernel_rfl
theorem cells3 : Tryz.prog.cellsOf 3 = 1 := by kernel_rfl
theorem cells4 : Tryz.prog.cellsOf 4 = 1 := by kernel_rfl
theorem cells43 : Tryz.prog.cellsOf 84 = 9 := by kernel_rfl
theorem cells41 : Tryz.prog.cellsOf 32 = 3 := by kernel_rfl
theorem cells45 : Tryz.prog.cellsOf 39 = 4 := by kernel_rfl
theorem cells47 : Tryz.prog.cellsOf 86 = 21 := by kernel_rfl
theorem bytes47 : Tryz.prog.bytesOf 86 = 184 := by kernel_rfl

theorem tab_of_laid {W : World} (h : laidMetH Tryz.prog Rows.storesRow.laid W) : Tab W := by
  rw [MakeChecks.laidMetH_plain _ _ _ (by kernel_rfl)] at h
  exact Lib.tabIs_of_head g1 tPow Tryz.underlying304 Tryz.underlying264 cells223 cells259 (laidMet.tail (laidMet.tail h))
theorem tab_size {W : World} (h : Tab W) : 1 < W.heap.size := by
  unfold Tab Lib.TabIs World.var? at h
  rw [g1] at h
  simp only [Option.bind_some] at h
  split at h
  · rename_i e
    exact (Array.getElem?_eq_some_iff.1 e).1
  · cases h

theorem i64_bd {k : Int} (h : (Lit.int .i64 k).wf = true) : -9223372036854775808 ≤ k ∧ k ≤ 9223372036854775807 := by
  have h1 : IntKind.i64.min = -9223372036854775808 := rfl
  have h2 : IntKind.i64.max = 9223372036854775807 := rfl
  simp [Lit.wf, h1, h2] at h
  omega

theorem u8_in {k : Int} (h : (Lit.int .u8 k).wf = true) : 0 ≤ k ∧ k ≤ 255 := by
  have h1 : IntKind.u8.min = 0 := rfl
  have h2 : IntKind.u8.max = 255 := rfl
  simp [Lit.wf, h1, h2] at h
  omega

section
variable {H : Type} {enc : TypeId × Value → H} {W : World} {base : Nat} {sp : Nat → Bool} {held : Bool} {n : Nat} {cs : List Value} {x : DataW H × List MemPlace}
/-- One field of a struct that reads. -/
theorem trod_field {t : TypeId} {fs : Array Field} (ht : Tryz.prog.underlying t = some (.struct fs)) (h : DataW.trod enc Tryz.prog W base sp held n t cs = some x) (i : Nat) (f : Field) (hf : fs[i]? = some f) (ft off k : Nat) (h1 : f.type = ft) (h2 : f.offset = off) (h3 : Tryz.prog.cellsOf ft = k) :
    ∃ m y, DataW.trod enc Tryz.prog W base sp held m ft ((cs.drop off).take k) = some y := by
  obtain ⟨xs, m, _, _, _, hl, hg⟩ := DataW.trod_struct ht h
  have hlt : i < xs.length := by rw [hl]; exact (Array.getElem?_eq_some_iff.1 hf).1
  have := hg i f hf
  rw [h1, h2, h3, List.getElem?_eq_getElem hlt] at this
  exact ⟨m, _, this⟩
theorem leaf_i (h : DataW.trod enc Tryz.prog W base sp held n 3 cs = some x) : ∃ q : Int, cs = [.int .i64 q] ∧ -9223372036854775808 ≤ q ∧ q ≤ 9223372036854775807 := by
  obtain ⟨q, e, _, w⟩ := DataW.trod_int Tryz.underlying3 h
  exact ⟨q, e, i64_bd w⟩
theorem leaf_u (h : DataW.trod enc Tryz.prog W base sp held n 5 cs = some x) : ∃ q : Int, cs = [.int .u8 q] ∧ 0 ≤ q ∧ q ≤ 255 := by
  obtain ⟨q, e, _, w⟩ := DataW.trod_int Tryz.underlying5 h
  exact ⟨q, e, u8_in w⟩
theorem leaf_s (h : DataW.trod enc Tryz.prog W base sp held n 9 cs = some x) : ∃ s : ByteArray, cs = [.string s] ∧ s.size ≤ maxLen := by
  obtain ⟨q, e, _, w⟩ := DataW.trod_string Tryz.underlying9 h
  exact ⟨q, e, w⟩
theorem leaf_b (h : DataW.trod enc Tryz.prog W base sp held n 4 cs = some x) : ∃ b : Bool, cs = [.bool b] := by
  obtain ⟨q, e, _⟩ := DataW.trod_bool Tryz.underlying4 h
  exact ⟨q, e⟩
theorem read43 (hl : cs.length = 9) (h : DataW.trod enc Tryz.prog W base sp held n 84 cs = some x) : ∃ (q0 : Int) (q1 : ByteArray) (q2 : Int) (q3 : Int) (q4 : Int) (q5 : Int) (q6 : Int) (q7 : Int) (q8 : Bool), cs[0]? = some (.int .u8 q0) ∧ cs[1]? = some (.string q1) ∧ cs[2]? = some (.int .i64 q2) ∧ cs[3]? = some (.int .i64 q3) ∧ cs[4]? = some (.int .i64 q4) ∧ cs[5]? = some (.int .i64 q5) ∧ cs[6]? = some (.int .i64 q6) ∧ cs[7]? = some (.int .u8 q7) ∧ cs[8]? = some (.bool q8) ∧ 0 ≤ q0 ∧ q0 ≤ 255 ∧ q1.size ≤ maxLen := by
  obtain ⟨m0, y0, r0⟩ := trod_field Tryz.underlying84 h 0 _ rfl 5 0 1 rfl rfl cells5
  obtain ⟨m1, y1, r1⟩ := trod_field Tryz.underlying84 h 1 _ rfl 9 1 1 rfl rfl cells9
  obtain ⟨m2, y2, r2⟩ := trod_field Tryz.underlying84 h 2 _ rfl 3 2 1 rfl rfl cells3
  obtain ⟨m3, y3, r3⟩ := trod_field Tryz.underlying84 h 3 _ rfl 3 3 1 rfl rfl cells3
  obtain ⟨m4, y4, r4⟩ := trod_field Tryz.underlying84 h 4 _ rfl 3 4 1 rfl rfl cells3
  obtain ⟨m5, y5, r5⟩ := trod_field Tryz.underlying84 h 5 _ rfl 3 5 1 rfl rfl cells3
  obtain ⟨m6, y6, r6⟩ := trod_field Tryz.underlying84 h 6 _ rfl 3 6 1 rfl rfl cells3
  obtain ⟨m7, y7, r7⟩ := trod_field Tryz.underlying84 h 7 _ rfl 5 7 1 rfl rfl cells5
  obtain ⟨m8, y8, r8⟩ := trod_field Tryz.underlying84 h 8 _ rfl 4 8 1 rfl rfl cells4
  obtain ⟨q0, e0, u0⟩ := leaf_u r0
  obtain ⟨q1, e1, s1⟩ := leaf_s r1
  obtain ⟨q2, e2, _⟩ := leaf_i r2
  obtain ⟨q3, e3, _⟩ := leaf_i r3
  obtain ⟨q4, e4, _⟩ := leaf_i r4
  obtain ⟨q5, e5, _⟩ := leaf_i r5
  obtain ⟨q6, e6, _⟩ := leaf_i r6
  obtain ⟨q7, e7, _⟩ := leaf_u r7
  obtain ⟨q8, e8⟩ := leaf_b r8
  match cs, hl with
  | [v0, v1, v2, v3, v4, v5, v6, v7, v8], _ =>
    simp at e0 e1 e2 e3 e4 e5 e6 e7 e8
    exact ⟨q0, q1, q2, q3, q4, q5, q6, q7, q8, by simp [e0], by simp [e1], by simp [e2], by simp [e3], by simp [e4], by simp [e5], by simp [e6], by simp [e7], by simp [e8], u0.1, u0.2, s1⟩
theorem read41 (hl : cs.length = 3) (h : DataW.trod enc Tryz.prog W base sp held n 32 cs = some x) : ∃ (q0 : Int) (q1 : Int) (q2 : Int), cs[0]? = some (.int .i64 q0) ∧ cs[1]? = some (.int .i64 q1) ∧ cs[2]? = some (.int .i64 q2) := by
  obtain ⟨m0, y0, r0⟩ := trod_field Tryz.underlying32 h 0 _ rfl 3 0 1 rfl rfl cells3
  obtain ⟨m1, y1, r1⟩ := trod_field Tryz.underlying32 h 1 _ rfl 3 1 1 rfl rfl cells3
  obtain ⟨m2, y2, r2⟩ := trod_field Tryz.underlying32 h 2 _ rfl 3 2 1 rfl rfl cells3
  obtain ⟨q0, e0, _⟩ := leaf_i r0
  obtain ⟨q1, e1, _⟩ := leaf_i r1
  obtain ⟨q2, e2, _⟩ := leaf_i r2
  match cs, hl with
  | [v0, v1, v2], _ =>
    simp at e0 e1 e2
    exact ⟨q0, q1, q2, by simp [e0], by simp [e1], by simp [e2]⟩
theorem read45 (hl : cs.length = 4) (h : DataW.trod enc Tryz.prog W base sp held n 39 cs = some x) : ∃ (q0 : Int) (q1 : ByteArray) (q2 : Int) (q3 : Int), cs[0]? = some (.int .u8 q0) ∧ cs[1]? = some (.string q1) ∧ cs[2]? = some (.int .i64 q2) ∧ cs[3]? = some (.int .i64 q3) := by
  obtain ⟨m0, y0, r0⟩ := trod_field Tryz.underlying39 h 0 _ rfl 5 0 1 rfl rfl cells5
  obtain ⟨m1, y1, r1⟩ := trod_field Tryz.underlying39 h 1 _ rfl 9 1 1 rfl rfl cells9
  obtain ⟨m2, y2, r2⟩ := trod_field Tryz.underlying39 h 2 _ rfl 3 2 1 rfl rfl cells3
  obtain ⟨m3, y3, r3⟩ := trod_field Tryz.underlying39 h 3 _ rfl 3 3 1 rfl rfl cells3
  obtain ⟨q0, e0, u0⟩ := leaf_u r0
  obtain ⟨q1, e1, _⟩ := leaf_s r1
  obtain ⟨q2, e2, _⟩ := leaf_i r2
  obtain ⟨q3, e3, _⟩ := leaf_i r3
  match cs, hl with
  | [v0, v1, v2, v3], _ =>
    simp at e0 e1 e2 e3
    exact ⟨q0, q1, q2, q3, by simp [e0], by simp [e1], by simp [e2], by simp [e3]⟩

/-- A step's cells. -/
theorem step_at {a : Addr} (hc : W.cells? base a 21 = some cs) (h : DataW.trod enc Tryz.prog W base sp held n 86 cs = some x) :
    ∃ t : St, (∀ j, j < 21 → W.cell? (a.add j) = t.arr[j]?) ∧ StOk t := by
  obtain ⟨_, hlen, hcell⟩ := World.cells?_some hc
  obtain ⟨m0, y0, r0⟩ := trod_field Tryz.underlying86 h 0 _ rfl 3 0 1 rfl rfl cells3
  obtain ⟨m1, y1, r1⟩ := trod_field Tryz.underlying86 h 1 _ rfl 3 1 1 rfl rfl cells3
  obtain ⟨m2, y2, r2⟩ := trod_field Tryz.underlying86 h 2 _ rfl 3 2 1 rfl rfl cells3
  obtain ⟨m3, y3, r3⟩ := trod_field Tryz.underlying86 h 3 _ rfl 3 3 1 rfl rfl cells3
  obtain ⟨m4, y4, r4⟩ := trod_field Tryz.underlying86 h 4 _ rfl 9 4 1 rfl rfl cells9
  obtain ⟨m5, y5, r5⟩ := trod_field Tryz.underlying86 h 5 _ rfl 84 5 9 rfl rfl cells43
  obtain ⟨m6, y6, r6⟩ := trod_field Tryz.underlying86 h 6 _ rfl 32 14 3 rfl rfl cells41
  obtain ⟨m7, y7, r7⟩ := trod_field Tryz.underlying86 h 7 _ rfl 39 17 4 rfl rfl cells45
  obtain ⟨q0, e0, w0⟩ := leaf_i r0
  obtain ⟨q1, e1, w1⟩ := leaf_i r1
  obtain ⟨q2, e2, w2⟩ := leaf_i r2
  obtain ⟨q3, e3, w3⟩ := leaf_i r3
  obtain ⟨q4, e4, w4⟩ := leaf_s r4
  match cs, hlen with
  | [v0, v1, v2, v3, v4, v5, v6, v7, v8, v9, v10, v11, v12, v13, v14, v15, v16, v17, v18, v19, v20], _ =>
    simp at e0 e1 e2 e3 e4
    obtain ⟨o0, o1, o2, o3, o4, o5, o6, o7, o8, oe0, oe1, oe2, oe3, oe4, oe5, oe6, oe7, oe8, ou0, ou1, os1⟩ := read43 (by simp) r5
    obtain ⟨c0, c1, c2, ce0, ce1, ce2⟩ := read41 (by simp) r6
    obtain ⟨p0, p1, p2, p3, pe0, pe1, pe2, pe3⟩ := read45 (by simp) r7
    simp at oe0 oe1 oe2 oe3 oe4 oe5 oe6 oe7 oe8 ce0 ce1 ce2 pe0 pe1 pe2 pe3
    subst e0 e1 e2 e3 e4 oe0 oe1 oe2 oe3 oe4 oe5 oe6 oe7 oe8 ce0 ce1 ce2 pe0 pe1 pe2 pe3
    refine ⟨⟨q0, q1, q2, q3, q4, o0, o1, o2, o3, o4, o5, o6, o7, o8, c0, c1, c2, p0, p1, p2, p3⟩, fun j hj => ?_, ⟨w4, os1, ou0, ou1, w1.1, w1.2⟩⟩
    rw [hcell j (by simpa using hj)]
    have hj2 : j = 0 ∨ j = 1 ∨ j = 2 ∨ j = 3 ∨ j = 4 ∨ j = 5 ∨ j = 6 ∨ j = 7 ∨ j = 8 ∨ j = 9 ∨ j = 10 ∨ j = 11 ∨ j = 12 ∨ j = 13 ∨ j = 14 ∨ j = 15 ∨ j = 16 ∨ j = 17 ∨ j = 18 ∨ j = 19 ∨ j = 20 := by omega
    rcases hj2 with rfl | rfl | rfl | rfl | rfl | rfl | rfl | rfl | rfl | rfl | rfl | rfl | rfl | rfl | rfl | rfl | rfl | rfl | rfl | rfl | rfl <;> rfl
end

theorem steps_of {H : Type} {enc : TypeId × Value → H} {W : World} {base n len : Nat} {sp : Nat → Bool} {held : Bool} {a : Addr} {D : Nat → DataW H} {Pl : Nat → List MemPlace} (hpos : 0 < len)
    (hx : ∀ i, i < len → ∃ cs', W.cells? base (a.add (i * Tryz.prog.cellsOf 86)) (Tryz.prog.cellsOf 86) = some cs' ∧ DataW.trod enc Tryz.prog W base sp held n 86 cs' = some (D i, Pl i)) :
    ∃ b off st, a = ⟨b, off, none⟩ ∧ StepsAt W b off len st ∧ ∀ i, i < len → StOk (st i) := by
  have each : ∀ i, i < len → ∃ t : St, (∀ j, j < 21 → W.cell? ((a.add (i * 21)).add j) = t.arr[j]?) ∧ StOk t := by
    intro i hi
    obtain ⟨cs', h1, h2⟩ := hx i hi
    rw [cells47] at h1
    exact step_at h1 h2
  have iS : Inhabited St := ⟨⟨0, 0, 0, 0, ⟨#[]⟩, 0, ⟨#[]⟩, 0, 0, 0, 0, 0, 0, false, 0, 0, 0, 0, ⟨#[]⟩, 0, 0⟩⟩
  obtain ⟨st, hst⟩ := Deep.choose_lt each
  have h00 := (hst 0 hpos).1 0 (by omega)
  obtain ⟨b, off, spot⟩ := a
  have hspot : spot = none := by
    have := h00
    cases spot
    · rfl
    · exfalso
      revert this
      simp [World.cell?, Addr.add, St.arr]
      split <;> simp
  subst hspot
  have ea : ∀ i j : Nat, ((⟨b, off, none⟩ : Addr).add i).add j = ⟨b, off + i + j, none⟩ := by
    intro i j
    unfold Addr.add
    by_cases hi : i = 0 <;> by_cases hj : j = 0 <;> simp [hi, hj]
  refine ⟨b, off, st, rfl, ⟨?_, ?_⟩, fun i hi => (hst i hi).2⟩
  · have := h00
    rw [ea] at this
    unfold World.cell? at this
    split at this
    · rename_i e
      exact (Array.getElem?_eq_some_iff.1 e).1
    · simp [St.arr] at this
  · intro i hi j hj
    have := (hst i hi).1 j hj
    rwa [ea] at this

end Go.Proofs.YtdgfjneapialdaaGreatDoor.S
