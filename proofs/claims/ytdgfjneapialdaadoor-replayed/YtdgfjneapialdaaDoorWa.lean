import Derived.Test.YtdgfjneapialdaaDoorSy
import Derived.Test.YtdgfjneapialdaaDoorSv
import Derived.Deep.RegionWith
namespace Go.Proofs.YtdgfjneapialdaaDoor
open Go Go.RowKit Go.Maps

/-- The set that stays. -/
def setX : ByteArray := ⟨#[120]⟩
def notX (k : Int) (s : ByteArray) : Prop := ¬ (k = 0 ∧ s = setX)

/-- Two calls at most. -/
def Wr2 (ver cre : Int) (log : List Value) (n : Nat) (D : DataW Unit) (w' : World) (sb mb : Nat) (lim : Int) : Prop :=
  ∃ ver1 cre1 log1 n1 D1 ver2 cre2 log2 n2 D2, Wr ver cre log n D ver1 cre1 log1 n1 D1 notX ∧ Wr ver1 cre1 log1 n1 D1 ver2 cre2 log2 n2 D2 notX ∧ IsStore w' sb mb lim ver2 cre2 log2 n2 D2

theorem Wr2.one {ver cre : Int} {log : List Value} {n : Nat} {D : DataW Unit} {w' : World} {sb mb : Nat} {lim : Int} (h : ∃ ver' cre' log' n' D', IsStore w' sb mb lim ver' cre' log' n' D' ∧ Wr ver cre log n D ver' cre' log' n' D' notX) : Wr2 ver cre log n D w' sb mb lim := by
  obtain ⟨ver', cre', log', n', D', hS, hW⟩ := h
  exact ⟨_, _, _, _, _, _, _, _, _, _, hW, Wr.none hW.inv, hS⟩

/-- A name of a pod. -/
structure PodN (nm : ByteArray) : Prop where
  sz : nm.size ≤ maxLen
  ne : nm ≠ setX

theorem podN_p1 : PodN ⟨#[112, 49]⟩ := ⟨by simp [maxLen, ByteArray.size], fun e => by have := congrArg ByteArray.size e; simp [setX, ByteArray.size] at this⟩
theorem podN_of (u : Int) (h0 : 0 ≤ u) (h1 : u ≤ 100000) : PodN (podName u) := by
  refine ⟨?_, fun e => ?_⟩
  · have := podName_size u h0 h1
    unfold maxLen
    omega
  · have h := podName_head u
    rw [e] at h
    simp [setX] at h

theorem letter_ne (c : Int) : letterS c ≠ setX := by
  have hp := pickI_bd c 3 (by omega)
  unfold letterS setX
  generalize pickI c 3 = p at hp
  obtain rfl | rfl | rfl : p = 0 ∨ p = 1 ∨ p = 2 := by omega
  all_goals
    intro e
    have := congrArg ByteArray.data e
    revert this
    decide
theorem letter_sz (c : Int) : (letterS c).size ≤ maxLen := by
  unfold letterS maxLen
  simp [ByteArray.size]

/-- An element's name in the row. -/
theorem flat_name {kk : Int} (l : List (Obk kk)) (i : Nat) (hi : i < l.length) : (flat l)[i * 9 + 1]? = some (.string (l[i]).1.name) := by
  induction l generalizing i with
  | nil => simp at hi
  | cons x r ih =>
    rw [flat_cons]
    rcases i with _ | i
    · rfl
    · rw [List.getElem?_append_right (by rw [enc_len]; omega), enc_len, show (i + 1) * 9 + 1 - 9 = i * 9 + 1 by omega, ih i (by simpa using hi)]
      simp

end Go.Proofs.YtdgfjneapialdaaDoor
