import Derived.Test.YtdgfjneapialdaaGreatDoorXa
import Derived.Test.YtdgfjneapialdaaGreatDoorSy
namespace Go.Proofs.YtdgfjneapialdaaGreatDoor.S
open Go Go.RowKit Go.Maps

/-- An element's cells in a row of elements of c cells each. -/
theorem flatMap_get {α : Type} (enc : α → List Value) (c : Nat) (hc : ∀ x, (enc x).length = c) : ∀ (l : List α) (i j : Nat) (hi : i < l.length), j < c → (l.flatMap enc)[i * c + j]? = (enc l[i])[j]?
  | [], i, j, hi, _ => by simp at hi
  | x :: r, i, j, hi, hj => by
    rw [List.flatMap_cons]
    rcases i with _ | i
    · rw [List.getElem?_append_left (by rw [hc]; omega)]
      simp
    · have ih := flatMap_get enc c hc r i j (by simpa using hi) hj
      rw [List.getElem?_append_right (by rw [hc, Nat.add_mul]; omega), hc, show (i + 1) * c + j - c = i * c + j by rw [Nat.add_mul]; omega, ih]
      simp
theorem flatMap_len {α : Type} (enc : α → List Value) (c : Nat) (hc : ∀ x, (enc x).length = c) (l : List α) : (l.flatMap enc).length = l.length * c := by
  induction l with
  | nil => simp
  | cons x r ih => rw [List.flatMap_cons, List.length_append, ih, hc, List.length_cons, Nat.add_mul]; omega

def evP (x : Int × Ob) : List Value := evOb x.1 x.2
theorem evP_len (x : Int × Ob) : (evP x).length = 10 := rfl

/-- A log out of sixteen events. -/
def logOf (f : Nat → Int × Ob) : List Value := ((List.range 16).map f).flatMap evP
def upd (f : Nat → Int × Ob) (i : Nat) (x : Int × Ob) : Nat → Int × Ob := fun j => if j = i then x else f j

theorem logOf_len (f : Nat → Int × Ob) : (logOf f).length = 160 := by
  unfold logOf
  rw [flatMap_len evP 10 evP_len]
  simp
theorem logOf_get (f : Nat → Int × Ob) (i j : Nat) (hi : i < 16) (hj : j < 10) : (logOf f)[i * 10 + j]? = (evP (f i))[j]? := by
  unfold logOf
  rw [flatMap_get evP 10 evP_len _ i j (by simpa using hi) hj]
  simp

theorem logPut_get : ∀ (xs log : List Value) (m t : Nat), m + xs.length ≤ log.length → (logPut log m xs)[t]? = if m ≤ t ∧ t < m + xs.length then xs[t - m]? else log[t]?
  | [], log, m, t, _ => by
    rw [if_neg (by simp)]
    rfl
  | x :: r, log, m, t, h => by
    rw [logPut, logPut_get r (log.set m x) (m + 1) t (by simp at h ⊢; omega)]
    by_cases h1 : m + 1 ≤ t ∧ t < m + 1 + r.length
    · rw [if_pos h1, if_pos (by simp; omega)]
      obtain ⟨u, rfl⟩ : ∃ u, t = m + 1 + u := ⟨t - (m + 1), by omega⟩
      rw [show m + 1 + u - (m + 1) = u by omega, show m + 1 + u - m = u + 1 by omega]
      rfl
    · rw [if_neg h1]
      by_cases h2 : t = m
      · subst h2
        rw [if_pos (by simp)]
        simp at h
        simp [show t < log.length by omega]
      · rw [if_neg (by simp at h1 ⊢; omega), List.getElem?_set_ne (fun e => h2 e.symm)]

theorem logPut_logOf (f : Nat → Int × Ob) (i : Nat) (hi : i < 16) (x : Int × Ob) : logPut (logOf f) (i * 10) (evP x) = logOf (upd f i x) := by
  apply List.ext_getElem?
  intro t
  rw [logPut_get (evP x) (logOf f) (i * 10) t (by rw [evP_len, logOf_len]; omega), evP_len]
  by_cases ht : t < 160
  · obtain ⟨a, b, rfl, ha, hb⟩ : ∃ a b, t = a * 10 + b ∧ a < 16 ∧ b < 10 := ⟨t / 10, t % 10, by omega, by omega, by omega⟩
    rw [logOf_get (upd f i x) a b ha hb, logOf_get f a b ha hb]
    by_cases e : a = i
    · subst e
      rw [if_pos (by omega), show a * 10 + b - a * 10 = b by omega]
      simp [upd]
    · rw [if_neg (by omega)]
      simp [upd, e]
  · rw [if_neg (by omega), List.getElem?_eq_none (by rw [logOf_len]; omega), List.getElem?_eq_none (by rw [logOf_len]; omega)]

theorem zlog_is : zlog = logOf (fun _ => (0, Ob.zero)) := rfl

end Go.Proofs.YtdgfjneapialdaaGreatDoor.S
