import Derived.Test.YtdgfjneapialdaaQs
import Derived.Test.YtdgfjneapialdaaRows
import Derived.ProofKit
import Derived.SizedLaws
import Derived.OpenShut
import Derived.Deep.Slices
import Derived.Deep.Strs
import Derived.Lib.RowBridge
namespace Go.Proofs.Ytdgfjneapialdaa
open Go Go.ChangeShapes Go.WideShapes Go.ChangeAt Go.RowKit

theorem own : ownKnob Try.prog.godebug = none := by kernel_rfl
theorem laidOut : laidOutB Try.prog = true := by kernel_rfl
theorem cells3 : Try.prog.cellsOf 3 = 1 := by kernel_rfl
theorem cells29 : Try.prog.cellsOf 29 = 3 := by kernel_rfl
theorem bytes29 : Try.prog.bytesOf 29 = 24 := by kernel_rfl

theorem i64_bd {k : Int} (h : (Lit.int .i64 k).wf = true) : -9223372036854775808 ≤ k ∧ k ≤ 9223372036854775807 := by
  have h1 : IntKind.i64.min = -9223372036854775808 := rfl
  have h2 : IntKind.i64.max = 9223372036854775807 := rfl
  simp [Lit.wf, h1, h2] at h
  omega

theorem struct29 : ∃ f0 f1 f2, Try.prog.underlying 29 = some (.struct #[f0, f1, f2]) ∧ f0.type = 3 ∧ f1.type = 3 ∧ f2.type = 3 ∧ f0.offset = 0 ∧ f1.offset = 1 ∧ f2.offset = 2 := ⟨_, _, _, Try.underlying29, rfl, rfl, rfl, rfl, rfl, rfl⟩

/-- One act's three cells. -/
theorem act_at {H : Type} {enc : TypeId × Value → H} {W : World} {base : Nat} {sp : Nat → Bool} {held : Bool} {n : Nat} {a : Addr} {cs : List Value} {x : DataW H × List MemPlace} (hc : W.cells? base a 3 = some cs) (h : DataW.trod enc Try.prog W base sp held n 29 cs = some x) :
    ∃ q0 q1 q2 : Int, W.cell? (a.add 0) = some (.int .i64 q0) ∧ W.cell? (a.add 1) = some (.int .i64 q1) ∧ W.cell? (a.add 2) = some (.int .i64 q2) ∧ (-9223372036854775808 ≤ q0 ∧ q0 ≤ 9223372036854775807) ∧ (-9223372036854775808 ≤ q1 ∧ q1 ≤ 9223372036854775807) ∧ (-9223372036854775808 ≤ q2 ∧ q2 ≤ 9223372036854775807) := by
  obtain ⟨f0, f1, f2, hu, t0, t1, t2, o0, o1, o2⟩ := struct29
  obtain ⟨_, hlen, hcell⟩ := World.cells?_some hc
  obtain ⟨y0, y1, y2, m, _, _, r0, r1, r2⟩ := Deep.trod_struct3 hu h
  rw [t0, o0, cells3] at r0
  rw [t1, o1, cells3] at r1
  rw [t2, o2, cells3] at r2
  obtain ⟨q0, e0, _, w0⟩ := DataW.trod_int Try.underlying3 r0
  obtain ⟨q1, e1, _, w1⟩ := DataW.trod_int Try.underlying3 r1
  obtain ⟨q2, e2, _, w2⟩ := DataW.trod_int Try.underlying3 r2
  rcases cs with _ | ⟨c0, _ | ⟨c1, _ | ⟨c2, _ | ⟨c3, r⟩⟩⟩⟩
  · simp at hlen
  · simp at hlen
  · simp at hlen
  · simp at e0 e1 e2
    subst e0 e1 e2
    exact ⟨q0, q1, q2, by simpa using hcell 0 (by omega), by simpa using hcell 1 (by omega), by simpa using hcell 2 (by omega), i64_bd w0, i64_bd w1, i64_bd w2⟩
  · simp at hlen

theorem acts_of {H : Type} {enc : TypeId × Value → H} {W : World} {base n len : Nat} {sp : Nat → Bool} {held : Bool} {a : Addr} {D : Nat → DataW H} {Pl : Nat → List MemPlace} (hpos : 0 < len)
    (hx : ∀ i, i < len → ∃ cs', W.cells? base (a.add (i * Try.prog.cellsOf 29)) (Try.prog.cellsOf 29) = some cs' ∧ DataW.trod enc Try.prog W base sp held n 29 cs' = some (D i, Pl i)) :
    ∃ b off ac, a = ⟨b, off, none⟩ ∧ ActsAt W b off len ac := by
  have each : ∀ i, i < len → ∃ q : Int × Int × Int, W.cell? ((a.add (i * 3)).add 0) = some (.int .i64 q.1) ∧ W.cell? ((a.add (i * 3)).add 1) = some (.int .i64 q.2.1) ∧ W.cell? ((a.add (i * 3)).add 2) = some (.int .i64 q.2.2) ∧ (-9223372036854775808 ≤ q.1 ∧ q.1 ≤ 9223372036854775807) ∧ (-9223372036854775808 ≤ q.2.1 ∧ q.2.1 ≤ 9223372036854775807) ∧ (-9223372036854775808 ≤ q.2.2 ∧ q.2.2 ≤ 9223372036854775807) := by
    intro i hi
    obtain ⟨cs', h1, h2⟩ := hx i hi
    rw [cells29] at h1
    obtain ⟨q0, q1, q2, r⟩ := act_at h1 h2
    exact ⟨(q0, q1, q2), r⟩
  obtain ⟨ac, hac⟩ := Deep.choose_lt each
  obtain ⟨b, off, spot⟩ := a
  have hspot : spot = none := by
    have := (hac 0 hpos).1
    cases spot
    · rfl
    · exfalso
      revert this
      simp [World.cell?, Addr.add]
      split <;> simp
  subst hspot
  have ea : ∀ i j : Nat, ((⟨b, off, none⟩ : Addr).add i).add j = ⟨b, off + i + j, none⟩ := by
    intro i j
    unfold Addr.add
    by_cases hi : i = 0 <;> by_cases hj : j = 0 <;> simp [hi, hj]
  refine ⟨b, off, ac, rfl, ?_, ?_, ?_, ?_, ?_, ?_, ?_⟩
  · have := (hac 0 hpos).1
    rw [ea] at this
    unfold World.cell? at this
    split at this
    · rename_i e
      exact (Array.getElem?_eq_some_iff.1 e).1
    · cases this
  · intro i hi; have := (hac i hi).1; rw [ea] at this; simpa using this
  · intro i hi; have := (hac i hi).2.1; rw [ea] at this; exact this
  · intro i hi; have := (hac i hi).2.2.1; rw [ea] at this; exact this
  · intro i hi; exact (hac i hi).2.2.2.1
  · intro i hi; exact (hac i hi).2.2.2.2.1
  · intro i hi; exact (hac i hi).2.2.2.2.2

set_option maxRecDepth 100000 in
theorem drained_lifted (os : Os) (started : os.Started) (H : Type) (enc : TypeId × Value → H) :
    ReturnsInHanded {} Try.checked os 3 .any (Rows.drainedSpec.pre6 enc Try.prog Try.f3 Rows.drainedRow.domain false) (Rows.drainedSpec.post enc Try.prog Try.f3 false true false false) := by
  refine returnsInHanded_of_change_sized (C := Try.checked) own started (by kernel_rfl) Try.func3
    (ChangeSpec.witness6 (enc := enc) (C := Try.checked) false ⟨#[], #[.slice none 0 0], []⟩ 8 (by kernel_rfl) (by kernel_rfl) (by kernel_rfl) (by kernel_rfl)) ?_
  intro W base args ds gs before hval0 hW _ hsz0 _
  have hsz : (DataW.weightsEach Try.prog (Try.f3.params.toList ++ Rows.drainedSpec.plain.varTypes Try.prog) (ds ++ gs)).all (· ≤ reachBytes) = true := hsz0
  clear hsz0
  have hval : ∀ (j : Nat) t v, Try.f3.params[j]? = some t → args[j]? = some v → Value.okWide Try.prog W .any base t v := hval0
  have hW' := hW
  obtain ⟨p, q, hA0, hV, rfl, hfz, hnd⟩ := hW
  have hA : DataW.TrodAll enc Try.prog W 0 (fun _ => true) true Try.f3.params.toList args.toList ds p := hA0
  rw [Try.params3] at hA hval hsz
  obtain ⟨v0, d0, rfl, rfl, h0⟩ := trodAll_one hA
  obtain ⟨rfl, rfl⟩ := trodVars_none hV
  have h0k := h0
  obtain ⟨a0, len, cap, rfl⟩ := okWide_slice Try.underlying22 (hval 0 22 v0 rfl rfl)
  obtain ⟨fuel, hf⟩ := h0
  clear hA0 hval0
  simp only [List.append_nil] at hW'
  have hlt : ∀ y ∈ p, y.block < W.heap.size := fun y hy => by simpa using hW'.lt y (by simp [hy])
  have fin : ∀ W' : World, Below W.heap.size W W' → ∃ v, Ending.returned (.bool true) = .returned v ∧ Rows.drainedSpec.post enc Try.prog Try.f3 false true false false W #[.slice a0 len cap] v W' := by
    intro W' hn
    refine ⟨_, rfl, _, _, _, [], p, [], hW', trodAll_mk1 (shut_bool Try.underlying4 true), trodAll_mk1 ?_, rfl, hn.frame _, fun h => by cases h⟩
    exact Below.trod laidOut (by kernel_rfl) (of_decide_eq_true (by kernel_rfl)) h0k hn hlt
  have hmain : (0 < len → ∃ b off ac, a0 = some ⟨b, off, none⟩ ∧ ActsAt W b off len ac) ∧ len ≤ 140737488355328 := by
    rcases Deep.open_slice Try.underlying22 hf with ⟨hcs, hx⟩ | ⟨a, len', cap', m, n, D, Pl, hcs, hb, hl, hm, hmm, hx, hel⟩
    · simp [Value.cells] at hcs
      exact ⟨fun h => by omega, by omega⟩
    · simp [Value.cells] at hcs
      obtain ⟨rfl, rfl, rfl⟩ := hcs
      simp only [if_true] at hmm
      simp only [Prod.mk.injEq] at hx
      obtain ⟨hd0, _⟩ := hx
      have hsl := sized_slice hsz (j := 0) (t := 22) (e := 29) (elems := (List.range len).map D) (spare := (List.range (m - len)).map fun j => D (len + j)) rfl (by rw [hd0]; rfl) Try.underlying22
      rw [bytes29, List.length_map, List.length_range] at hsl
      unfold reachBytes at hsl
      refine ⟨fun hpos => ?_, by omega⟩
      obtain ⟨b, off, ac, rfl, hac⟩ := acts_of hpos (fun i hi => hel i (by omega))
      exact ⟨b, off, ac, rfl, hac⟩
  exact (drained_any a0 len cap W hmain.1 hmain.2).mono fun e W' ⟨he, hn⟩ => by subst he; exact fin W' hn

theorem drained_holds : Rows.DrainedSaid :=
  OpenClaim.holds_of_wide 3 Try.f3 rfl rfl rfl rfl rfl rfl rfl ⟨rfl, rfl, rfl, rfl, rfl⟩ rfl rfl rfl rfl rfl (by kernel_rfl) Try.func3 (by kernel_rfl)
    (of_decide_eq_true (by kernel_rfl)) (by unfold Func.isWrapper; first | (rw [if_pos (by decide +kernel)]; kernel_rfl) | (rw [if_neg (by decide +kernel)]; exact ⟨rfl, rfl⟩))
    (fun os started H enc _ => drained_lifted os started H enc)

#print axioms drained_holds
end Go.Proofs.Ytdgfjneapialdaa
