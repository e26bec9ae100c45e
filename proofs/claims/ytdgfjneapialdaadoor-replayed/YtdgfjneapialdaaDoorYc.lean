import Derived.Test.YtdgfjneapialdaaDoorYb
import Derived.Test.YtdgfjneapialdaaDoorSv
namespace Go.Proofs.YtdgfjneapialdaaDoor
open Go Go.RowKit Go.Maps

def flatO (l : List Ob) : List Value := l.flatMap fun o => o.arr.toList
theorem flatO_len (l : List Ob) : (flatO l).length = l.length * 9 := flatMap_len _ 9 (fun _ => rfl) l
theorem flatO_snoc (l : List Ob) (x : Ob) : flatO (l ++ [x]) = flatO l ++ x.arr.toList := by simp [flatO]
theorem flatO_get (l : List Ob) (i j : Nat) (hi : i < l.length) (hj : j < 9) : (flatO l)[i * 9 + j]? = (l[i]).arr.toList[j]? := flatMap_get (fun o : Ob => o.arr.toList) 9 (fun _ => rfl) l i j hi hj
theorem flat_is {kk : Int} (l : List (Obk kk)) : flat l = flatO (l.map (·.1)) := by simp [flat, flatO, Obk.enc]

/-- What a slice that owns a row looks like. -/
theorem row_form {w : World} {base : Nat} {e : TypeId} {c : Nat} {v : Value} {n : Nat} {xs : List Value} (h : w.ownsRow base e c v n xs) : ∃ ad cap, v = .slice ad n cap ∧ (0 < n → ∃ g, ad = some ⟨g, 0, none⟩ ∧ base ≤ g ∧ g < w.heap.size) := by
  rcases h.2 with ⟨rfl, rfl⟩ | ⟨g, cap, cur, rfl, hb, hbk, _⟩
  · exact ⟨none, 0, rfl, fun h => absurd h (by omega)⟩
  · exact ⟨_, cap, rfl, fun _ => ⟨g, rfl, hb, (Array.getElem?_eq_some_iff.1 hbk).1⟩⟩

/-- The row stays where nothing below has turned. -/
theorem row_below {w w' : World} {base : Nat} {e : TypeId} {c : Nat} {v : Value} {n : Nat} {xs : List Value} (h : w.ownsRow base e c v n xs) (hb : Below w.heap.size w w') : w'.ownsRow base e c v n xs := by
  refine ⟨h.1, ?_⟩
  rcases h.2 with h0 | ⟨g, cap, cur, rfl, hbs, hbk, r⟩
  · exact Or.inl h0
  · exact Or.inr ⟨g, cap, cur, rfl, hbs, (hb.block g (Array.getElem?_eq_some_iff.1 hbk).1).trans hbk, r⟩
theorem row_kept {sb mb : Nat} {w w' : World} {base : Nat} {e : TypeId} {c : Nat} {v : Value} {n : Nat} {xs : List Value} (h : w.ownsRow base e c v n xs) (hb : Kept sb mb w w') (h1 : sb < base) (h2 : mb < base) : w'.ownsRow base e c v n xs := by
  refine ⟨h.1, ?_⟩
  rcases h.2 with h0 | ⟨g, cap, cur, rfl, hbs, hbk, r⟩
  · exact Or.inl h0
  · exact Or.inr ⟨g, cap, cur, rfl, hbs, (hb.block g (Array.getElem?_eq_some_iff.1 hbk).1 (by omega) (by omega)).trans hbk, r⟩
theorem row_base {w : World} {base base' : Nat} {e : TypeId} {c : Nat} {v : Value} {n : Nat} {xs : List Value} (h : w.ownsRow base e c v n xs) (hb : base' ≤ base) : w.ownsRow base' e c v n xs := by
  refine ⟨h.1, ?_⟩
  rcases h.2 with h0 | ⟨g, cap, cur, rfl, hbs, r⟩
  · exact Or.inl h0
  · exact Or.inr ⟨g, cap, cur, rfl, by omega, r⟩

theorem belowDN {w W : World} (h : Below w.heap.size w W) (n : Nat) : Below w.heap.size w (W.drewN n) := ⟨h.os, h.tape, h.output, h.size, h.block⟩

def unlike (o x : Ob) : Bool := x.kind != o.kind || x.name.toList != o.name.toList
def takenL (l : List Ob) (so : Int) (o : Ob) : List Ob := (l.filter (unlike o)) ++ (if so = 2 then [] else [o])

theorem filter_snoc (o : Ob) (l : List Ob) (k : Nat) (hk : k < l.length) : (l.take (k + 1)).filter (unlike o) = (l.take k).filter (unlike o) ++ (if unlike o l[k] then [l[k]] else []) := by
  rw [List.take_succ_eq_append_getElem hk, List.filter_append]
  simp [List.filter_cons]

set_option maxRecDepth 100000 in
set_option maxHeartbeats 400000 in
theorem taken_any (w : World) (base : Nat) (v : Value) (l : List Ob) (so : Int) (o : Ob) (hrow : w.ownsRow base 36 9 v l.length (flatO l)) (hl : l.length ≤ 1000) :
    Calls Tryd.prog 14 #[v, .agg #[.int .u8 so, .int .u8 o.kind, .string o.name, .int .i64 o.uid, .int .i64 o.version, .int .i64 o.replicas, .int .i64 o.status, .int .i64 o.owner, .int .u8 o.phase, .bool o.gone]] w fun e w' => ∃ v', e = .returned v' ∧ w'.ownsRow w.heap.size 36 9 v' (takenL l so o).length (flatO (takenL l so o)) ∧ Below w.heap.size w w' := by
  obtain ⟨ad, cap, rfl, had⟩ := row_form hrow
  obtain ⟨i0, hi, hz0, hz1, hz2⟩ := info_parts info29
  have Hrow : Hid (w.ownsRow base 36 9 (.slice ad l.length cap) l.length (flatO l)) := hrow
  clear hrow
  go_enter Tryd.func14, Tryd.ntmps14
  go_wp2
  go_loopw [6, 5] (fun i vo wr => ∃ k : Nat, k ≤ l.length ∧ i = .int .i64 k ∧ Hid (wr.ownsRow (w.heap.size + 1) 36 9 vo ((l.take k).filter (unlike o)).length (flatO ((l.take k).filter (unlike o)))) ∧ Hid (wr.heap[w.heap.size]? = some (.cells #[.int .u8 so, .int .u8 o.kind, .string o.name, .int .i64 o.uid, .int .i64 o.version, .int .i64 o.replicas, .int .i64 o.status, .int .i64 o.owner, .int .u8 o.phase, .bool o.gone] 49 (0, 0))) ∧ Hid (Below w.heap.size w wr) ∧ w.heap.size + 1 ≤ wr.heap.size) (fun i _ _ => l.length - (intOf i).toNat)
  case atStart => exact ⟨0, Nat.zero_le _, rfl, ⟨rfl, Or.inl ⟨rfl, rfl⟩⟩, alloc_lastv _ _, belowAl' (Below.refl _ _) _, by simp⟩
  case round =>
    obtain ⟨k, hk, rfl, Hout, Hev, Hbw, hsz⟩ := hrel
    by_cases hlt : k < l.length
    · obtain ⟨g, rfl, hgb, hgs⟩ := had (by omega)
      obtain ⟨x, hx⟩ : ∃ x, x = l[k] := ⟨_, rfl⟩
      have hroww := row_below Hrow.out Hbw.out
      have hel : ∀ (t : Nat) (y : Value), t < 9 → (x.arr.toList)[t]? = some y → wr.cell? ⟨g, k * 9 + t, none⟩ = some y := by
        intro t y ht hy
        rw [hroww.cellAt (k * 9 + t) (by omega), flatO_get l k t hlt ht, ← hx, hy]
      have q0 : wr.cell? ⟨g, k * 9, none⟩ = some (.int .u8 x.kind) := hel 0 _ (by omega) rfl
      have q1 : wr.cell? ⟨g, k * 9 + 1, none⟩ = some (.string x.name) := hel 1 _ (by omega) rfl
      have q2 : wr.cell? ⟨g, k * 9 + 2, none⟩ = some (.int .i64 x.uid) := hel 2 _ (by omega) rfl
      have q3 : wr.cell? ⟨g, k * 9 + 3, none⟩ = some (.int .i64 x.version) := hel 3 _ (by omega) rfl
      have q4 : wr.cell? ⟨g, k * 9 + 4, none⟩ = some (.int .i64 x.replicas) := hel 4 _ (by omega) rfl
      have q5 : wr.cell? ⟨g, k * 9 + 5, none⟩ = some (.int .i64 x.status) := hel 5 _ (by omega) rfl
      have q6 : wr.cell? ⟨g, k * 9 + 6, none⟩ = some (.int .i64 x.owner) := hel 6 _ (by omega) rfl
      have q7 : wr.cell? ⟨g, k * 9 + 7, none⟩ = some (.int .u8 x.phase) := hel 7 _ (by omega) rfl
      have q8 : wr.cell? ⟨g, k * 9 + 8, none⟩ = some (.bool x.gone) := hel 8 _ (by omega) rfl
      have e0 : wr.cell? ⟨w.heap.size, 0, none⟩ = some (.int .u8 so) := by simp [World.cell?, Hev.out]
      have e1 : wr.cell? ⟨w.heap.size, 1, none⟩ = some (.int .u8 o.kind) := by simp [World.cell?, Hev.out]
      have e2 : wr.cell? ⟨w.heap.size, 2, none⟩ = some (.string o.name) := by simp [World.cell?, Hev.out]
      have e3 : wr.cell? ⟨w.heap.size, 3, none⟩ = some (.int .i64 o.uid) := by simp [World.cell?, Hev.out]
      have e4 : wr.cell? ⟨w.heap.size, 4, none⟩ = some (.int .i64 o.version) := by simp [World.cell?, Hev.out]
      have e5 : wr.cell? ⟨w.heap.size, 5, none⟩ = some (.int .i64 o.replicas) := by simp [World.cell?, Hev.out]
      have e6 : wr.cell? ⟨w.heap.size, 6, none⟩ = some (.int .i64 o.status) := by simp [World.cell?, Hev.out]
      have e7 : wr.cell? ⟨w.heap.size, 7, none⟩ = some (.int .i64 o.owner) := by simp [World.cell?, Hev.out]
      have e8 : wr.cell? ⟨w.heap.size, 8, none⟩ = some (.int .u8 o.phase) := by simp [World.cell?, Hev.out]
      have e9 : wr.cell? ⟨w.heap.size, 9, none⟩ = some (.bool o.gone) := by simp [World.cell?, Hev.out]
      have HX : Hid (x = l[k]) := hx
      clear hx hel hroww
      by_cases hkd : x.kind = o.kind
      · have hb1 : (x.kind != o.kind) = false := by simp [hkd]
        by_cases hnm : x.name.toList = o.name.toList
        · have hb2 : (x.name.toList == o.name.toList) = true := by simp [hnm]
          have hun : Hid (unlike o x = false) := by unfold Hid unlike; simp [hkd, hnm]
          clear hkd hnm
          go_wp2_with fail
          go_quiet (fail)
          go_wp2
          go_roundw
          case rel =>
            refine ⟨k + 1, by omega, by simp, ?_, Hev, belowDN Hbw.out _, hsz⟩
            unfold Hid
            rw [filter_snoc o l k hlt, ← HX.out, if_neg (by simp [hun.out]), List.append_nil]
            exact Hout.out
          case measure => simp [intOf]; omega
        · have hb2 : (x.name.toList == o.name.toList) = false := by simp [hnm]
          have hun : Hid (unlike o x = true) := by unfold Hid unlike; simp [hnm]
          clear hkd hnm
          have hrow4 := Hout.out.alloc (.cells #[.int .u8 x.kind, .string x.name, .int .i64 x.uid, .int .i64 x.version, .int .i64 x.replicas, .int .i64 x.status, .int .i64 x.owner, .int .u8 x.phase, .bool x.gone] 36)
          have hnews : ∀ j u, [.int .u8 x.kind, .string x.name, .int .i64 x.uid, .int .i64 x.version, .int .i64 x.replicas, .int .i64 x.status, .int .i64 x.owner, .int .u8 x.phase, .bool x.gone][j]? = some u → (wr.alloc (.cells #[.int .u8 x.kind, .string x.name, .int .i64 x.uid, .int .i64 x.version, .int .i64 x.replicas, .int .i64 x.status, .int .i64 x.owner, .int .u8 x.phase, .bool x.gone] 36)).cell? ((⟨wr.heap.size, 0, none⟩ : Addr).add j) = some u := cell_nine_new wr _ _ _ _ _ _ _ _ _ 36
          have hone : ∀ u ∈ [Value.int .u8 x.kind, .string x.name, .int .i64 x.uid, .int .i64 x.version, .int .i64 x.replicas, .int .i64 x.status, .int .i64 x.owner, .int .u8 x.phase, .bool x.gone], u.oneCell' = true := by
            intro u hu
            simp only [List.mem_cons, List.not_mem_nil, or_false] at hu
            rcases hu with rfl | rfl | rfl | rfl | rfl | rfl | rfl | rfl | rfl <;> rfl
          have hfl : ((l.take k).filter (unlike o)).length ≤ 1000 := by
            have := List.length_filter_le (unlike o) (l.take k)
            simp at this ⊢
            omega
          have h63 : ((l.take k).filter (unlike o)).length + 1 ≤ maxLen := by unfold maxLen; omega
          have hby : (((l.take k).filter (unlike o)).length + 1) * 72 ≤ 140737488355328 := by omega
          have hbs : w.heap.size + 1 ≤ (wr.alloc (.cells #[.int .u8 x.kind, .string x.name, .int .i64 x.uid, .int .i64 x.version, .int .i64 x.replicas, .int .i64 x.status, .int .i64 x.owner, .int .u8 x.phase, .bool x.gone] 36)).heap.size := by simp; omega
          go_wp2_with fail
          go_quiet (fail)
          go_wp2_with (first
            | (at_builtin; refine wpList_append_own _ rfl _ _ 39 rfl (w.heap.size + 1) 36 i0 (.agg #[.int .u8 0, .string ⟨#[]⟩, .int .i64 0, .int .i64 0, .int .i64 0, .int .i64 0, .int .i64 0, .int .u8 0, .bool false]) 9 72 Tryd.underlying39 hi hz0 hz1 hz2 rfl (by decide) _ _ _ rfl hrow4 ⟨wr.heap.size, 0, none⟩ 1 1 [.int .u8 x.kind, .string x.name, .int .i64 x.uid, .int .i64 x.version, .int .i64 x.replicas, .int .i64 x.status, .int .i64 x.owner, .int .u8 x.phase, .bool x.gone] rfl rfl hnews hone h63 hby hbs ?_; intro v' w3 hown' hg3 hnil3; go_frame)
            | go_in)
          go_roundw
          case rel =>
            refine ⟨k + 1, by omega, by simp, ?_, ?_, ?_, ?_⟩
            · unfold Hid
              rw [filter_snoc o l k hlt, ← HX.out, if_pos hun.out, flatO_snoc]
              simpa [Ob.arr] using hown'
            · unfold Hid
              rw [hg3.block _ (by simp; omega) (fun e => by have := (hrow4.lt _ e.symm).1; omega), Below.heap_alloc (wr.drewN nq) _ _ (Nat.lt_of_succ_le hsz)]
              exact Hev.out
            · exact (belowAl' (belowDN Hbw.out nq) _).grown hg3 (by simp; omega) (fun j hj => by have := (hrow4.lt j hj).1; omega)
            · have := hg3.size
              simp at this
              omega
          case measure => simp [intOf]; omega
      · have hb1 : (x.kind != o.kind) = true := by simp [hkd]
        have hun : Hid (unlike o x = true) := by unfold Hid unlike; simp [hkd]
        clear hkd
        have hrow4 := Hout.out.alloc (.cells #[.int .u8 x.kind, .string x.name, .int .i64 x.uid, .int .i64 x.version, .int .i64 x.replicas, .int .i64 x.status, .int .i64 x.owner, .int .u8 x.phase, .bool x.gone] 36)
        have hnews : ∀ j u, [.int .u8 x.kind, .string x.name, .int .i64 x.uid, .int .i64 x.version, .int .i64 x.replicas, .int .i64 x.status, .int .i64 x.owner, .int .u8 x.phase, .bool x.gone][j]? = some u → (wr.alloc (.cells #[.int .u8 x.kind, .string x.name, .int .i64 x.uid, .int .i64 x.version, .int .i64 x.replicas, .int .i64 x.status, .int .i64 x.owner, .int .u8 x.phase, .bool x.gone] 36)).cell? ((⟨wr.heap.size, 0, none⟩ : Addr).add j) = some u := cell_nine_new wr _ _ _ _ _ _ _ _ _ 36
        have hone : ∀ u ∈ [Value.int .u8 x.kind, .string x.name, .int .i64 x.uid, .int .i64 x.version, .int .i64 x.replicas, .int .i64 x.status, .int .i64 x.owner, .int .u8 x.phase, .bool x.gone], u.oneCell' = true := by
          intro u hu
          simp only [List.mem_cons, List.not_mem_nil, or_false] at hu
          rcases hu with rfl | rfl | rfl | rfl | rfl | rfl | rfl | rfl | rfl <;> rfl
        have hfl : ((l.take k).filter (unlike o)).length ≤ 1000 := by
          have := List.length_filter_le (unlike o) (l.take k)
          simp at this ⊢
          omega
        have h63 : ((l.take k).filter (unlike o)).length + 1 ≤ maxLen := by unfold maxLen; omega
        have hby : (((l.take k).filter (unlike o)).length + 1) * 72 ≤ 140737488355328 := by omega
        have hbs : w.heap.size + 1 ≤ (wr.alloc (.cells #[.int .u8 x.kind, .string x.name, .int .i64 x.uid, .int .i64 x.version, .int .i64 x.replicas, .int .i64 x.status, .int .i64 x.owner, .int .u8 x.phase, .bool x.gone] 36)).heap.size := by simp; omega
        go_wp2_with fail
        go_quiet (fail)
        go_wp2_with (first
          | (at_builtin; refine wpList_append_own _ rfl _ _ 39 rfl (w.heap.size + 1) 36 i0 (.agg #[.int .u8 0, .string ⟨#[]⟩, .int .i64 0, .int .i64 0, .int .i64 0, .int .i64 0, .int .i64 0, .int .u8 0, .bool false]) 9 72 Tryd.underlying39 hi hz0 hz1 hz2 rfl (by decide) _ _ _ rfl hrow4 ⟨wr.heap.size, 0, none⟩ 1 1 [.int .u8 x.kind, .string x.name, .int .i64 x.uid, .int .i64 x.version, .int .i64 x.replicas, .int .i64 x.status, .int .i64 x.owner, .int .u8 x.phase, .bool x.gone] rfl rfl hnews hone h63 hby hbs ?_; intro v' w3 hown' hg3 hnil3; go_frame)
          | go_in)
        go_roundw
        case rel =>
          refine ⟨k + 1, by omega, by simp, ?_, ?_, ?_, ?_⟩
          · unfold Hid
            rw [filter_snoc o l k hlt, ← HX.out, if_pos hun.out, flatO_snoc]
            simpa [Ob.arr] using hown'
          · unfold Hid
            rw [hg3.block _ (by simp; omega) (fun e => by have := (hrow4.lt _ e.symm).1; omega), Below.heap_alloc (wr.drewN nq) _ _ (Nat.lt_of_succ_le hsz)]
            exact Hev.out
          · exact (belowAl' (belowDN Hbw.out nq) _).grown hg3 (by simp; omega) (fun j hj => by have := (hrow4.lt j hj).1; omega)
          · have := hg3.size
            simp at this
            omega
        case measure => simp [intOf]; omega
    · have hkl : k = l.length := by omega
      subst hkl
      have hlt2 : ¬ ((l.length : Int) < (l.length : Int)) := by omega
      have Hw0 := Hout.out
      rw [List.take_length] at Hw0
      have Hw : Hid (wr.ownsRow (w.heap.size + 1) 36 9 u5 (l.filter (unlike o)).length (flatO (l.filter (unlike o)))) := Hw0
      clear Hw0
      clear Hout
      have e0 : wr.cell? ⟨w.heap.size, 0, none⟩ = some (.int .u8 so) := by simp [World.cell?, Hev.out]
      have e1 : wr.cell? ⟨w.heap.size, 1, none⟩ = some (.int .u8 o.kind) := by simp [World.cell?, Hev.out]
      have e2 : wr.cell? ⟨w.heap.size, 2, none⟩ = some (.string o.name) := by simp [World.cell?, Hev.out]
      have e3 : wr.cell? ⟨w.heap.size, 3, none⟩ = some (.int .i64 o.uid) := by simp [World.cell?, Hev.out]
      have e4 : wr.cell? ⟨w.heap.size, 4, none⟩ = some (.int .i64 o.version) := by simp [World.cell?, Hev.out]
      have e5 : wr.cell? ⟨w.heap.size, 5, none⟩ = some (.int .i64 o.replicas) := by simp [World.cell?, Hev.out]
      have e6 : wr.cell? ⟨w.heap.size, 6, none⟩ = some (.int .i64 o.status) := by simp [World.cell?, Hev.out]
      have e7 : wr.cell? ⟨w.heap.size, 7, none⟩ = some (.int .i64 o.owner) := by simp [World.cell?, Hev.out]
      have e8 : wr.cell? ⟨w.heap.size, 8, none⟩ = some (.int .u8 o.phase) := by simp [World.cell?, Hev.out]
      have e9 : wr.cell? ⟨w.heap.size, 9, none⟩ = some (.bool o.gone) := by simp [World.cell?, Hev.out]
      by_cases hso : so = 2
      · have hb : (so != 2) = false := by simp [hso]
        have ht : Hid (takenL l so o = l.filter (unlike o)) := by unfold Hid; simp [takenL, hso]
        clear hso
        go_wp2
        go_ret
        rw [ht.out]
        exact ⟨_, rfl, row_base Hw.out (by omega), Hbw.out⟩
      · have hb : (so != 2) = true := by simp [hso]
        have ht : Hid (takenL l so o = l.filter (unlike o) ++ [o]) := by unfold Hid; simp [takenL, hso]
        clear hso
        have hrow4 := Hw.out.alloc (.cells #[.int .u8 o.kind, .string o.name, .int .i64 o.uid, .int .i64 o.version, .int .i64 o.replicas, .int .i64 o.status, .int .i64 o.owner, .int .u8 o.phase, .bool o.gone] 36)
        have hnews : ∀ j u, [.int .u8 o.kind, .string o.name, .int .i64 o.uid, .int .i64 o.version, .int .i64 o.replicas, .int .i64 o.status, .int .i64 o.owner, .int .u8 o.phase, .bool o.gone][j]? = some u → (wr.alloc (.cells #[.int .u8 o.kind, .string o.name, .int .i64 o.uid, .int .i64 o.version, .int .i64 o.replicas, .int .i64 o.status, .int .i64 o.owner, .int .u8 o.phase, .bool o.gone] 36)).cell? ((⟨wr.heap.size, 0, none⟩ : Addr).add j) = some u := cell_nine_new wr _ _ _ _ _ _ _ _ _ 36
        have hone : ∀ u ∈ [Value.int .u8 o.kind, .string o.name, .int .i64 o.uid, .int .i64 o.version, .int .i64 o.replicas, .int .i64 o.status, .int .i64 o.owner, .int .u8 o.phase, .bool o.gone], u.oneCell' = true := by
          intro u hu
          simp only [List.mem_cons, List.not_mem_nil, or_false] at hu
          rcases hu with rfl | rfl | rfl | rfl | rfl | rfl | rfl | rfl | rfl <;> rfl
        have hfl : (l.filter (unlike o)).length ≤ 1000 := by
          have := List.length_filter_le (unlike o) l
          simp at this ⊢
          omega
        have h63 : (l.filter (unlike o)).length + 1 ≤ maxLen := by unfold maxLen; omega
        have hby : ((l.filter (unlike o)).length + 1) * 72 ≤ 140737488355328 := by omega
        have hbs : w.heap.size + 1 ≤ (wr.alloc (.cells #[.int .u8 o.kind, .string o.name, .int .i64 o.uid, .int .i64 o.version, .int .i64 o.replicas, .int .i64 o.status, .int .i64 o.owner, .int .u8 o.phase, .bool o.gone] 36)).heap.size := by simp; omega
        
        go_wp2_with (first
          | (at_builtin; refine wpList_append_own _ rfl _ _ 39 rfl (w.heap.size + 1) 36 i0 (.agg #[.int .u8 0, .string ⟨#[]⟩, .int .i64 0, .int .i64 0, .int .i64 0, .int .i64 0, .int .i64 0, .int .u8 0, .bool false]) 9 72 Tryd.underlying39 hi hz0 hz1 hz2 rfl (by decide) _ _ _ rfl hrow4 ⟨wr.heap.size, 0, none⟩ 1 1 [.int .u8 o.kind, .string o.name, .int .i64 o.uid, .int .i64 o.version, .int .i64 o.replicas, .int .i64 o.status, .int .i64 o.owner, .int .u8 o.phase, .bool o.gone] rfl rfl hnews hone h63 hby hbs ?_; intro v' w3 hown' hg3 hnil3; go_frame)
          | go_in)
        go_ret
        rw [ht.out]
        refine ⟨_, rfl, ?_, ?_⟩
        · refine row_base (base := w.heap.size + 1) ?_ (by omega)
          rw [flatO_snoc]
          simpa [Ob.arr] using hown'
        · exact (belowAl' Hbw.out _).grown hg3 (by simp; omega) (fun j hj => by have := (hrow4.lt j hj).1; omega)

end Go.Proofs.YtdgfjneapialdaaDoor
