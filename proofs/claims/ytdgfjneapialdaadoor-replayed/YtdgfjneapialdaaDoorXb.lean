import Derived.Test.YtdgfjneapialdaaDoorXa
import Derived.Test.YtdgfjneapialdaaDoorWb0
import Derived.Test.YtdgfjneapialdaaDoorWb1
import Derived.Test.YtdgfjneapialdaaDoorWb2
import Derived.Test.YtdgfjneapialdaaDoorWb3
import Derived.Test.YtdgfjneapialdaaDoorWb4
import Derived.Test.YtdgfjneapialdaaDoorWb5
namespace Go.Proofs.YtdgfjneapialdaaDoor
open Go Go.RowKit Go.Maps

theorem write_any (a0 a1 a2 : Int) (w : World) (sb mb : Nat) (lim ver cre : Int) (log : List Value) (n : Nat) (D : DataW Unit) [Inhabited (Obk 1)] (hI : Inv ver cre n D) (hT : Tab w) (hs1 : 1 < sb) (hm1 : 1 < mb) (h : IsStore w sb mb lim ver cre log n D) (b0 : -9223372036854775808 ≤ a0) (b0' : a0 ≤ 9223372036854775807) (b1 : -9223372036854775808 ≤ a1) (b1' : a1 ≤ 9223372036854775807) (b2 : -9223372036854775808 ≤ a2) (b2' : a2 ≤ 9223372036854775807) : Calls Tryd.prog 11 #[.pointer (some ⟨sb, 0, none⟩), .agg #[.int .i64 a0, .int .i64 a1, .int .i64 a2]] w fun e w' => e = .returned (.tuple #[]) ∧ Wr2 ver cre log n D w' sb mb lim ∧ Kept sb mb w w' := by
  have hp := pickI_bd a0 6 (by omega)
  obtain e | e | e | e | e | e : pickI a0 6 = 0 ∨ pickI a0 6 = 1 ∨ pickI a0 6 = 2 ∨ pickI a0 6 = 3 ∨ pickI a0 6 = 4 ∨ pickI a0 6 = 5 := by omega
  · exact write_0 a0 a1 a2 w sb mb lim ver cre log n D hI hT hs1 hm1 h b0 b0' b1 b1' b2 b2' e
  · exact write_1 a0 a1 a2 w sb mb lim ver cre log n D hI hT hs1 hm1 h b0 b0' b1 b1' b2 b2' e
  · exact write_2 a0 a1 a2 w sb mb lim ver cre log n D hI hT hs1 hm1 h b0 b0' b1 b1' b2 b2' e
  · exact write_3 a0 a1 a2 w sb mb lim ver cre log n D hI hT hs1 hm1 h b0 b0' b1 b1' b2 b2' e
  · exact write_4 a0 a1 a2 w sb mb lim ver cre log n D hI hT hs1 hm1 h b0 b0' b1 b1' b2 b2' e
  · exact write_5 a0 a1 a2 w sb mb lim ver cre log n D hI hT hs1 hm1 h b0 b0' b1 b1' b2 b2' e

def HasX (D : DataW Unit) : Prop := ∃ o, At D 0 setX o

theorem setX_sz : setX.size ≤ maxLen := by simp [setX, ByteArray.size, maxLen]

theorem hasX_wr {ver cre ver' cre' : Int} {log log' : List Value} {n n' : Nat} {D D' : DataW Unit} (hm : IsMap D) (h : Wr ver cre log n D ver' cre' log' n' D' notX) (hx : HasX D) : HasX D' := by
  rcases h.step with ⟨_, _, rfl⟩ | ⟨_, _, so, o, _, _, _, hk, hsz, _, hD⟩
  · exact hx
  · have hk0 : 0 ≤ o.kind ∧ o.kind ≤ 255 := by omega
    rcases hD with ⟨_, rfl⟩ | ⟨_, rfl, hP⟩
    · by_cases e : klit 0 setX = klit o.kind o.name
      · obtain ⟨e0, e1⟩ := klit_inj (by omega) (by omega) setX_sz hk0.1 hk0.2 hsz e
        refine ⟨o, ?_⟩
        rw [← e0, ← e1]
        exact at_put_same hm 0 setX o
      · obtain ⟨o', ho'⟩ := hx
        exact ⟨o', (at_put_other e).2 ho'⟩
    · obtain ⟨o', ho'⟩ := hx
      refine ⟨o', (at_del_other ?_).2 ho'⟩
      intro e
      obtain ⟨e0, e1⟩ := klit_inj (by omega) (by omega) setX_sz hk0.1 hk0.2 hsz e
      exact hP ⟨e0.symm, e1.symm⟩

/-- The store, with the set that stays, behind i acts. -/
def GoS (w : World) (sb mb : Nat) (lim : Int) (i : Nat) : Prop := ∃ ver cre log n D, IsStore w sb mb lim ver cre log n D ∧ Inv ver cre n D ∧ HasX D ∧ 1 ≤ ver ∧ ver ≤ 1 + 2 * (i : Int)

theorem GoS.next {ver cre : Int} {log : List Value} {n : Nat} {D : DataW Unit} {w' : World} {sb mb : Nat} {lim : Int} {i : Nat} (hI : Inv ver cre n D) (hx : HasX D) (h1 : 1 ≤ ver) (hv : ver ≤ 1 + 2 * (i : Int)) (h : Wr2 ver cre log n D w' sb mb lim) : GoS w' sb mb lim (i + 1) := by
  obtain ⟨_, _, _, _, _, _, _, _, _, _, hW1, hW2, hS⟩ := h
  have e1 := hW1.ver_le
  have e2 := hW2.ver_le
  exact ⟨_, _, _, _, _, hS, hW2.inv, hasX_wr hW1.inv.im hW2 (hasX_wr hI.im hW1 hx), by omega, by push_cast; omega⟩

theorem create_x (w : World) (sb mb : Nat) (lim : Int) (hl : 1 ≤ lim) (hs1 : 1 < sb) (hm1 : 1 < mb) (h : IsStore w sb mb lim 0 0 zlog 0 (.map [])) :
    Calls Tryd.prog 10 #[.pointer (some ⟨sb, 0, none⟩), .agg #[.int .u8 0, .string ⟨#[120]⟩, .int .i64 0, .int .i64 0, .int .i64 1, .int .i64 0, .int .i64 0, .int .u8 0, .bool false]] w fun e w' => (∃ x, e = .returned x) ∧ GoS w' sb mb lim 0 ∧ Kept sb mb w w' := by
  have hml : (0 : Nat) < maxLen := by unfold maxLen; omega
  have hc5 : ∀ W, IsStore W sb mb lim 0 0 zlog 0 (.map []) → Calls Tryd.prog 21 #[.pointer (some ⟨sb, 0, none⟩), .agg #[.int .u8 0, .string ⟨#[120]⟩, .int .i64 0, .int .i64 0, .int .i64 1, .int .i64 0, .int .i64 0, .int .u8 0, .bool false]] W fun e w' => e = .returned (.int .i64 0) ∧ Below W.heap.size W w' := fun W hW => may_full 0 ⟨#[120]⟩ 0 0 1 0 0 0 false W sb mb lim 0 0 zlog 0 (.map []) hW (by omega) (by omega) (by omega) setX_sz (by decide) rfl false (by simp [Maps.size]; omega)
  refine (create_ok 0 ⟨#[120]⟩ 0 0 1 0 0 0 false w sb mb lim 0 0 zlog 0 (.map []) ⟨#[120]⟩ h (by omega) (by omega) (by omega) (by omega) (by omega) (by omega) setX_sz hml hs1 hm1 hc5 (fun W _ _ => ownName_set ⟨#[120]⟩ (0 + 1) 0 1 0 0 0 false W (by simp [ByteArray.size]))).mono ?_
  rintro e w' ⟨rfl, hS, hK⟩
  have hI0 : Inv 0 0 0 (.map [] : DataW Unit) := ⟨by omega, by omega, by omega, by omega, by omega, isMap_empty, fun k s o _ _ _ ha => by have := ha.1; simp [has] at this⟩
  have hI1 := hI0.put (cre' := 0 + 1) (by omega) (by omega) (by omega) (k := 0) (s := setX) (o := ⟨0, setX, 0 + 1, 0 + 1, 1, 0, 0, 0, false⟩) (by omega) (by omega) setX_sz ⟨rfl, rfl, Or.inl rfl, by decide, by decide, by decide, by decide, fun _ => ⟨by decide, by decide, rfl, rfl, rfl⟩, fun e => (by cases e)⟩
  exact ⟨⟨_, rfl⟩, ⟨_, _, _, _, _, hS, hI1, ⟨_, at_put_same isMap_empty 0 setX _⟩, by omega, by omega⟩, hK⟩

end Go.Proofs.YtdgfjneapialdaaDoor
