import Derived.Test.YtdgfjneapialdaaGreatDoorQm
import Derived.Deep.Cut
namespace Go.Proofs.YtdgfjneapialdaaGreatDoor
open Go Go.RowKit Go.Maps Go.Lib Go.Sort

theorem ret_int {k : IntKind} {a b : Int} (h : a = b) : Ending.returned (.int k a) = .returned (.int k b) := by rw [h]
theorem ret_bool {a b : Bool} (h : a = b) : Ending.returned (.bool a) = .returned (.bool b) := by rw [h]
theorem ba_toList (a b : ByteArray) : a.toList = b.toList ↔ a = b := by
  constructor
  · intro h
    have h1 : a.data.toList = b.data.toList := by
      rw [ByteArray.toList_eq, ByteArray.toList_eq] at h
      exact h
    obtain ⟨⟨a⟩⟩ := a
    obtain ⟨⟨b⟩⟩ := b
    simp at h1
    rw [h1]
  · intro h; rw [h]

def noKeyB (k : ByteArray) : Bool := k.size == 0 || decide (8 < k.size)

theorem noKey_any (k : ByteArray) (w : World) (hs : k.size ≤ maxLen) : Calls Tryz.prog 129 #[.string k] w fun e w' => e = .returned (.bool (noKeyB k)) ∧ w' = w := by
  unfold maxLen at hs
  by_cases h0 : k.size = 0
  · have hb : (((k.size : Nat) : Int) == 0) = true := by simp [h0]
    have H : Hid (noKeyB k = true) := by unfold Hid noKeyB; simp [h0]
    clear h0
    go_enter Tryz.func129, Tryz.ntmps129
    go_wp2
    go_ret
    exact ⟨ret_bool H.out.symm, rfl⟩
  · have hb : (((k.size : Nat) : Int) == 0) = false := beq_eq_false_iff_ne.2 (by omega)
    by_cases h8 : 8 < k.size
    · have hd : decide (((k.size : Nat) : Int) > 8) = true := decide_eq_true (by omega)
      have H : Hid (noKeyB k = true) := by unfold Hid noKeyB; simp [h8]
      clear h0 h8
      go_enter Tryz.func129, Tryz.ntmps129
      go_wp2
      go_ret
      exact ⟨ret_bool (by rw [H.out]), rfl⟩
    · have hd : decide (((k.size : Nat) : Int) > 8) = false := decide_eq_false (by omega)
      have H : Hid (noKeyB k = false) := by unfold Hid noKeyB; simp [h0, h8]
      clear h0 h8
      go_enter Tryz.func129, Tryz.ntmps129
      go_wp2
      go_ret
      exact ⟨ret_bool (by rw [H.out]), rfl⟩

def memB (l : List ByteArray) (k : ByteArray) : Bool := l.any fun x => decide (x = k)
theorem memB_iff {l : List ByteArray} {k : ByteArray} : memB l k = true ↔ k ∈ l := by
  unfold memB
  rw [List.any_eq_true]
  constructor
  · rintro ⟨x, hx, h⟩; rw [decide_eq_true_eq] at h; rw [← h]; exact hx
  · intro h; exact ⟨k, h, by simp⟩
theorem memB_false {l : List ByteArray} {k : ByteArray} : memB l k = false ↔ k ∉ l := by
  rw [← memB_iff]; simp

/-- A row of texts, read. -/
theorem row_form1 {w : World} {base : Nat} {v : Value} {l : List ByteArray} (h : w.ownsRow base 9 1 v l.length (l.map Value.string)) :
    ∃ ad cap, v = .slice ad l.length cap ∧ (0 < l.length → ∃ g, ad = some ⟨g, 0, none⟩ ∧ g < w.heap.size ∧ ∀ j (hj : j < l.length), w.cell? ⟨g, j, none⟩ = some (.string l[j])) := by
  have hcc := fun g => h.cells (g := g)
  rcases h.2 with ⟨rfl, h0⟩ | ⟨g, cap, cur, rfl, _, hb, _⟩
  · exact ⟨none, 0, by rw [h0], fun h => absurd h (by omega)⟩
  · refine ⟨_, cap, rfl, fun _ => ⟨g, rfl, (Array.getElem?_eq_some_iff.1 hb).1, fun j hj => ?_⟩⟩
    have := hcc g rfl j (.string l[j]) (by simp [hj])
    rwa [Addr.add_lit, Nat.zero_add] at this

set_option maxRecDepth 100000 in
set_option maxHeartbeats 400000 in
theorem holds_any {w : World} {base : Nat} {v : Value} {l : List ByteArray} (h : w.ownsRow base 9 1 v l.length (l.map Value.string)) (hl : l.length ≤ 2000000000000) (key : ByteArray) :
    Calls Tryz.prog 130 #[v, .string key] w fun e w' => e = .returned (.bool (memB l key)) ∧ w' = w := by
  obtain ⟨ad, cap, rfl, had⟩ := row_form1 h
  have HAD : Hid (0 < l.length → ∃ g, ad = some ⟨g, 0, none⟩ ∧ g < w.heap.size ∧ ∀ j (hj : j < l.length), w.cell? ⟨g, j, none⟩ = some (.string l[j])) := had
  clear h had
  go_enter Tryz.func130, Tryz.ntmps130
  go_wp2
  go_loop [5] (fun i => ∃ k : Nat, k ≤ l.length ∧ i = .int .i64 k ∧ Hid (∀ x ∈ l.take k, x ≠ key)) (fun i => l.length - (intOf i).toNat)
  case atStart => exact ⟨0, Nat.zero_le _, rfl, fun x hx => by simp at hx⟩
  case round =>
    obtain ⟨k, hk, rfl, Hn⟩ := hrel
    by_cases hlt : k < l.length
    · obtain ⟨g, hg, _, hcc⟩ := HAD.out (by omega)
      subst hg
      have hcx := hcc k hlt
      obtain ⟨x, hx⟩ : ∃ x, x = l[k] := ⟨_, rfl⟩
      rw [← hx] at hcx
      have HX : Hid (x = l[k]) := hx
      clear hx hcc HAD
      have hlti : ((k : Int) < (l.length : Int)) := by omega
      by_cases he : x.toList = key.toList
      · have hb : (x.toList == key.toList) = true := by simp [he]
        have HE : Hid (x = key) := (ba_toList _ _).1 he
        clear he
        go_wp2
        go_ret
        refine ⟨ret_bool ?_, rfl⟩
        symm
        rw [memB_iff, ← HE.out, HX.out]
        exact List.getElem_mem hlt
      · have hb : (x.toList == key.toList) = false := by simp [he]
        have HE : Hid (x ≠ key) := fun e => he (by rw [e])
        clear he
        go_wp2
        go_round
        case rel =>
          refine ⟨k + 1, by omega, by simp, ?_⟩
          intro y hy
          rw [List.take_succ_eq_append_getElem hlt, List.mem_append, List.mem_singleton, ← HX.out] at hy
          rcases hy with hy | rfl
          · exact Hn.out y hy
          · exact HE.out
        case measure => simp [intOf]; omega
    · have hkl : k = l.length := by omega
      subst hkl
      have hlt2 : ¬ ((l.length : Int) < (l.length : Int)) := by omega
      clear HAD
      go_wp2
      go_ret
      exact ⟨ret_bool (by symm; rw [memB_false]; intro hm; exact Hn.out key (by rw [List.take_length]; exact hm) rfl), rfl⟩

def lessL (l : List ByteArray) (k : ByteArray) : List ByteArray := l.filter fun x => decide (x ≠ k)

set_option maxRecDepth 100000 in
set_option maxHeartbeats 400000 in
theorem less_any {w : World} {base : Nat} {v : Value} {l : List ByteArray} (h : w.ownsRow base 9 1 v l.length (l.map Value.string)) (hl : l.length ≤ 2000000000000) (key : ByteArray) :
    Calls Tryz.prog 132 #[v, .string key] w fun e w' => ∃ v', e = .returned v' ∧ w'.ownsRow w.heap.size 9 1 v' (lessL l key).length ((lessL l key).map Value.string) ∧ Below w.heap.size w w' := by
  obtain ⟨ad, cap, rfl, had⟩ := row_form1 h
  have HAD : Hid (0 < l.length → ∃ g, ad = some ⟨g, 0, none⟩ ∧ g < w.heap.size ∧ ∀ j (hj : j < l.length), w.cell? ⟨g, j, none⟩ = some (.string l[j])) := had
  obtain ⟨i0, hi, z0, z1, z2⟩ := info_parts info9
  clear h had
  go_enter Tryz.func132, Tryz.ntmps132
  go_wp2
  go_loopw [6, 5] (fun i vo wr => ∃ k : Nat, k ≤ l.length ∧ i = .int .i64 k ∧ wr.ownsRow w.heap.size 9 1 vo (lessL (l.take k) key).length ((lessL (l.take k) key).map Value.string) ∧ Hid (Below w.heap.size w wr)) (fun i _ _ => l.length - (intOf i).toNat)
  case atStart => exact ⟨0, Nat.zero_le _, rfl, ⟨rfl, Or.inl ⟨rfl, rfl⟩⟩, Below.refl _ _⟩
  case round =>
    obtain ⟨k, hk, rfl, hrow, HB⟩ := hrel
    by_cases hlt : k < l.length
    · obtain ⟨g, hg, hgl, hcc⟩ := HAD.out (by omega)
      subst hg
      have hcx := (HB.out.cell (p := ⟨g, k, none⟩) hgl).trans (hcc k hlt)
      obtain ⟨x, hx⟩ : ∃ x, x = l[k] := ⟨_, rfl⟩
      rw [← hx] at hcx
      have hll : (lessL (l.take k) key).length ≤ k := by
        have := List.length_filter_le (fun x => decide (x ≠ key)) (l.take k)
        rw [List.length_take] at this
        unfold lessL
        omega
      have HT : Hid (lessL (l.take (k + 1)) key = lessL (l.take k) key ++ (if x ≠ key then [x] else [])) := by
        unfold Hid lessL
        rw [List.take_succ_eq_append_getElem hlt, List.filter_append, ← hx]
        by_cases e : x = key <;> simp [e]
      clear hx hcc HAD hgl
      have hlti : ((k : Int) < (l.length : Int)) := by omega
      by_cases he : x.toList = key.toList
      · have hb : (x.toList == key.toList) = true := by simp [he]
        have HE : Hid (x = key) := (ba_toList _ _).1 he
        clear he
        go_wp2
        go_roundw
        case rel => exact ⟨k + 1, by omega, by simp, by rw [HT.out, if_neg (by simp [HE.out]), List.append_nil]; exact hrow, HB⟩
        case measure => simp [intOf]; omega
      · have hb : (x.toList == key.toList) = false := by simp [he]
        have HE : Hid (x ≠ key) := fun e => he (by rw [e])
        clear he
        have hrow4 := hrow.alloc (.cells #[.string x] 9)
        have hone : ∀ u ∈ [Value.string x], u.oneCell' = true := by
          intro u hu
          simp only [List.mem_cons, List.not_mem_nil, or_false] at hu
          subst hu
          rfl
        have h63 : (lessL (l.take k) key).length + 1 ≤ maxLen := by unfold maxLen; omega
        have hby : ((lessL (l.take k) key).length + 1) * 16 ≤ 140737488355328 := by omega
        have hbs : w.heap.size ≤ (wr.alloc (.cells #[.string x] 9)).heap.size := by have := HB.out.size; simp; omega
        go_wp2_with (first
          | (at_builtin; refine wpList_append_own _ rfl _ _ 114 rfl w.heap.size 9 i0 (.string ⟨#[]⟩) 1 16 Tryz.underlying114 hi z0 z1 z2 rfl (by decide) _ _ _ rfl hrow4 ⟨wr.heap.size, 0, none⟩ 1 1 [.string x] rfl rfl (cell_one_new _ _ _) hone h63 hby hbs ?_; intro v' w3 hown' hg3 hnil3; go_frame)
          | go_in)
        go_roundw
        case rel =>
          refine ⟨k + 1, by omega, by simp, ?_, ?_⟩
          · rw [HT.out, if_pos HE.out, List.map_append, List.length_append]
            exact hown'
          · exact (belowAl HB.out _).grown hg3 (belowAl HB.out _).size (fun j hj => (hrow4.lt j hj).1)
        case measure => simp [intOf]; omega
    · have hkl : k = l.length := by omega
      have hlt2 : ¬ ((k : Int) < (l.length : Int)) := by omega
      have HR : Hid (wr.ownsRow w.heap.size 9 1 u5 (lessL l key).length ((lessL l key).map Value.string)) := by
        rw [hkl, List.take_length] at hrow
        exact hrow
      clear HAD hrow hkl
      go_wp2
      go_ret
      exact ⟨_, rfl, HR.out, HB.out⟩

end Go.Proofs.YtdgfjneapialdaaGreatDoor
