import Derived.Test.YtdgfjneapialdaaQo
import Derived.Deep.QuietTactic
import Derived.BigQuiet
namespace Go.Proofs.Ytdgfjneapialdaa
open Go Go.RowKit Go.Maps Go.Lib Go.Sort

theorem ret_int {k : IntKind} {a b : Int} (h : a = b) : Ending.returned (.int k a) = .returned (.int k b) := by rw [h]
theorem ret_bool {a b : Bool} (h : a = b) : Ending.returned (.bool a) = .returned (.bool b) := by rw [h]

/-- pick: which of n things the raw number c speaks of. -/
def pickI (c n : Int) : Int := (if c < 0 then -(c + 1) else c) % n
theorem pickI_bd (c n : Int) (hn : 0 < n) : 0 ≤ pickI c n ∧ pickI c n < n := by
  unfold pickI
  exact ⟨Int.emod_nonneg _ (by omega), Int.emod_lt_of_pos _ hn⟩
theorem neg_tmod_eq (c n : Int) (hc : c < 0) : -((c + 1).tmod n) = (-(c + 1)) % n := by
  rw [← Int.neg_tmod, Int.tmod_eq_emod_of_nonneg (by omega)]

set_option maxHeartbeats 400000 in
theorem pick_any (c n : Int) (w : World) (h0 : -9223372036854775808 ≤ c) (h1 : c ≤ 9223372036854775807) (hn : 0 < n) (hn2 : n ≤ 9223372036854775807) :
    Calls Try.prog 5 #[.int .i64 c, .int .i64 n] w fun e w' => e = .returned (.int .i64 (pickI c n)) ∧ w' = w := by
  unfold pickI
  by_cases hc : c < 0
  · rw [if_pos hc]
    have H : Hid (-((c + 1).tmod n) = (-(c + 1)) % n) := neg_tmod_eq c n hc
    go_enter Try.func5, Try.ntmps5
    go_wp2
    go_ret
    exact ⟨ret_int H.out, rfl⟩
  · rw [if_neg hc]
    go_enter Try.func5, Try.ntmps5
    go_wp2
    go_ret
    exact ⟨rfl, rfl⟩

theorem ba_toList (a b : ByteArray) : a.toList = b.toList ↔ a = b := by
  constructor
  · intro h
    have h1 : a.data.toList = b.data.toList := by
      rw [ByteArray.toList_eq, ByteArray.toList_eq] at h
      exact h
    obtain ⟨⟨a⟩⟩ := a
    obtain ⟨⟨b⟩⟩ := b
    simp at h1
    rw [h1]
  · intro h; rw [h]

set_option maxHeartbeats 400000 in
theorem place_any (kb : Nat) (ks : List ByteArray) (key : ByteArray) (w : World) (hc : ∀ j (hj : j < ks.length), w.cell? ⟨kb, j, none⟩ = some (.string ks[j])) (hl : ks.length ≤ 1000000) :
    Calls Try.prog 11 #[.slice (some ⟨kb, 0, none⟩) ks.length ks.length, .string key] w fun e w' => ∃ r : Int, e = .returned (.int .i64 r) ∧ w' = w ∧ ((∃ j : Nat, r = (j : Int) ∧ ks[j]? = some key) ∨ (r = -1 ∧ key ∉ ks)) := by
  have HC : Hid (∀ j (hj : j < ks.length), w.cell? ⟨kb, j, none⟩ = some (.string ks[j])) := hc
  clear hc
  go_enter Try.func11, Try.ntmps11
  go_wp2
  go_loop [5] (fun i => ∃ k : Nat, k ≤ ks.length ∧ i = .int .i64 k ∧ Hid (∀ x ∈ ks.take k, x ≠ key)) (fun i => ks.length - (intOf i).toNat)
  case atStart => exact ⟨0, Nat.zero_le _, rfl, fun x hx => by simp at hx⟩
  case round =>
    obtain ⟨k, hk, rfl, Hn⟩ := hrel
    by_cases hlt : k < ks.length
    · have hcx := HC.out k hlt
      obtain ⟨x, hx⟩ : ∃ x, x = ks[k] := ⟨_, rfl⟩
      rw [← hx] at hcx
      have HX : Hid (x = ks[k]) := hx
      clear hx
      have hlti : ((k : Int) < (ks.length : Int)) := by omega
      by_cases he : x.toList = key.toList
      · have hb : (x.toList == key.toList) = true := by simp [he]
        have HE : Hid (x = key) := (ba_toList _ _).1 he
        clear he
        go_wp2
        go_ret
        exact ⟨k, rfl, rfl, Or.inl ⟨k, rfl, by rw [List.getElem?_eq_getElem hlt, ← HX.out, HE.out]⟩⟩
      · have hb : (x.toList == key.toList) = false := by simp [he]
        have HE : Hid (x ≠ key) := fun e => he (by rw [e])
        clear he
        go_wp2
        go_round
        case rel =>
          refine ⟨k + 1, by omega, by simp, ?_⟩
          intro y hy
          rw [List.take_succ_eq_append_getElem hlt, List.mem_append, List.mem_singleton, ← HX.out] at hy
          rcases hy with hy | rfl
          · exact Hn.out y hy
          · exact HE.out
        case measure => simp [intOf]; omega
    · have hkl : k = ks.length := by omega
      subst hkl
      have hlt2 : ¬ ((ks.length : Int) < (ks.length : Int)) := by omega
      go_wp2
      go_ret
      exact ⟨-1, rfl, rfl, Or.inr ⟨rfl, fun hm => Hn.out key (by rw [List.take_length]; exact hm) rfl⟩⟩

theorem flatD_at : ∀ (l : List Dk) (j : Nat) (hj : j < l.length), (flatD l)[j * 2]? = some (Value.string (bk l[j].1))
  | [], j, hj => by simp at hj
  | x :: r, 0, _ => by simp [flatD_cons, encD, enc_bk]
  | x :: r, j + 1, hj => by
    have ih := flatD_at r j (by simpa using hj)
    rw [flatD_cons, show (j + 1) * 2 = j * 2 + 2 by omega, List.getElem?_append_right (by rw [encD_len]; omega), encD_len, Nat.add_sub_cancel, ih]
    simp

section
variable {C : Nat → Prop} {U : List ByteArray} {w : World} {qb pm dm fm : Nat} {rv : Value} {s : QS}

set_option maxRecDepth 100000 in
set_option maxHeartbeats 1000000 in
theorem late_any (h : IsQ C U w qb pm dm fm rv s) (hU : U.length ≤ 1000000) (hO : QOk U s) (key : ByteArray) :
    Calls Try.prog 12 #[.pointer (some ⟨qb, 0, none⟩), .string key] w fun e w' => e = .returned (.bool (s.du key).isSome) ∧ Below w.heap.size w w' := by
  have ht := told_any h hU hO
  clear h hO
  go_enter Try.func12, Try.ntmps12
  go_wp2_with fail
  refine ht.mono ?_
  rintro e w1 ⟨v1, v2, l, rfl, ho1, ho2, hCD, _, hll, hb⟩
  have HB : Hid (Below w.heap.size w w1) := hb
  have HCD : Hid (CollD s.du (fun _ => false) l) := hCD
  have hll2 : l.length ≤ 1000000 := by omega
  obtain ⟨ad, cap, rfl, had⟩ : ∃ ad cap, v2 = .slice ad l.length cap ∧ (0 < l.length → ∃ g, ad = some ⟨g, 0, none⟩ ∧ ∀ j (hj : j < l.length), w1.cell? ⟨g, j * 2, none⟩ = some (.string (bk l[j].1))) := by
    have hcc := fun g => ho2.cells (g := g)
    rcases ho2.2 with ⟨rfl, h0⟩ | ⟨g, cap, cur, rfl, _⟩
    · exact ⟨none, 0, by rw [h0], fun h => absurd h (by omega)⟩
    · refine ⟨_, cap, rfl, fun _ => ⟨g, rfl, fun j hj => ?_⟩⟩
      have := hcc g rfl (j * 2) _ (flatD_at l j hj)
      rwa [Addr.add_lit, Nat.zero_add] at this
  have HAD : Hid (0 < l.length → ∃ g, ad = some ⟨g, 0, none⟩ ∧ ∀ j (hj : j < l.length), w1.cell? ⟨g, j * 2, none⟩ = some (.string (bk l[j].1))) := had
  clear ho1 ho2 hCD hb had ht hll hU
  go_wp2
  go_loop [7] (fun i => ∃ k : Nat, k ≤ l.length ∧ i = .int .i64 k ∧ Hid (∀ x ∈ l.take k, bk x.1 ≠ key)) (fun i => l.length - (intOf i).toNat)
  case atStart => exact ⟨0, Nat.zero_le _, rfl, fun x hx => by simp at hx⟩
  case round =>
    obtain ⟨k, hk, rfl, Hn⟩ := hrel
    by_cases hlt : k < l.length
    · obtain ⟨g, hg, hcc⟩ := HAD.out (by omega)
      subst hg
      have hcx := hcc k hlt
      obtain ⟨x, hx⟩ : ∃ x, x = bk l[k].1 := ⟨_, rfl⟩
      rw [← hx] at hcx
      have HX : Hid (x = bk l[k].1) := hx
      clear hx hcc HAD
      have hlti : ((k : Int) < (l.length : Int)) := by omega
      by_cases he : x.toList = key.toList
      · have hb : (x.toList == key.toList) = true := by simp [he]
        have HE : Hid (x = key) := (ba_toList _ _).1 he
        clear he
        go_wp2
        go_ret
        refine ⟨ret_bool ?_, HB.out⟩
        have := (HCD.out.snd l[k] (List.getElem_mem hlt)).1
        rw [← HX.out, HE.out] at this
        rw [this]
        rfl
      · have hb : (x.toList == key.toList) = false := by simp [he]
        have HE : Hid (x ≠ key) := fun e => he (by rw [e])
        clear he
        go_wp2
        go_round
        case rel =>
          refine ⟨k + 1, by omega, by simp, ?_⟩
          intro y hy
          rw [List.take_succ_eq_append_getElem hlt, List.mem_append, List.mem_singleton] at hy
          rcases hy with hy | rfl
          · exact Hn.out y hy
          · rw [← HX.out]; exact HE.out
        case measure => simp [intOf]; omega
    · have hkl : k = l.length := by omega
      subst hkl
      have hlt2 : ¬ ((l.length : Int) < (l.length : Int)) := by omega
      clear HAD
      go_wp2
      go_ret
      refine ⟨ret_bool ?_, HB.out⟩
      cases hd : s.du key with
      | none => rfl
      | some c =>
        exfalso
        rcases HCD.out.cmp key.data.toList c (by rw [bk_data]; exact hd) with h1 | h1
        · cases h1
        · exact Hn.out _ (by rw [List.take_length]; exact h1) (bk_data key)
end

end Go.Proofs.Ytdgfjneapialdaa
