import Derived.Test.YtdgfjneapialdaaGreatDoorPj
namespace Go.Proofs.YtdgfjneapialdaaGreatDoor
open Go Go.RowKit Go.Maps Go.Lib Go.Sort

theorem own_set {w : World} {base g n cap : Nat} {e : TypeId} {size : Nat} {xs : List Value} (h : w.ownsRow base e size (.slice (some ⟨g, 0, none⟩) n cap) n xs) (p : Nat) (v : Value) : (w.setCell ⟨g, p, none⟩ v).ownsRow base e size (.slice (some ⟨g, 0, none⟩) n cap) n (xs.set p v) := by
  refine ⟨by rw [List.length_set]; exact h.1, ?_⟩
  rcases h.2 with ⟨h1, _⟩ | ⟨g', cap', cur, h1, h2, h3, h4, h5, h6, h7⟩
  · cases h1
  · cases h1
    refine Or.inr ⟨g, cap, cur.setIfInBounds p v, rfl, h2, heap_setCell_at h3 _ _, h4, h5, by simpa using h6, ?_⟩
    rw [Array.toList_setIfInBounds, List.take_set, h7]
theorem flatD_set1 : ∀ (l : List Dk) (j : Nat) (hj : j < l.length) (t : Int), (flatD l).set (j * 2 + 1) (.int .i64 t) = flatD (l.set j (l[j].1, t))
  | [], j, hj, _ => by simp at hj
  | x :: r, 0, _, t => by simp [flatD_cons, encD]
  | x :: r, j + 1, hj, t => by
    have ih := flatD_set1 r j (by simpa using hj) t
    simp only [List.set_cons_succ, List.getElem_cons_succ]
    rw [flatD_cons, flatD_cons, ← ih, show (j + 1) * 2 + 1 = (encD x).length + (j * 2 + 1) by rw [encD_len]; omega, List.set_append_right _ _ (by omega)]
    simp

section
variable {C : Nat → Prop} {w : World} {rb : Nat} {v1 v2 v3 v4 v5 : Value} {r : RS}
theorem IsR.setFail {g cap : Nat} (h : IsR C w rb v1 v2 v3 v4 (.slice (some ⟨g, 0, none⟩) r.fails.length cap) r) (j : Nat) (hj : j < r.fails.length) (t : Int) :
    IsR C (w.setCell ⟨g, j * 2 + 1, none⟩ (.int .i64 t)) rb v1 v2 v3 v4 (.slice (some ⟨g, 0, none⟩) r.fails.length cap) { r with fails := r.fails.set j (r.fails[j].1, t) } := by
  obtain ⟨cg, hg⟩ := own_typ h.o5 g rfl
  have nb : ∀ {v : Value} {e : TypeId} {size n : Nat} {xs : List Value}, w.ownsRow 0 e size v n xs → e ≠ 201 → (w.setCell ⟨g, j * 2 + 1, none⟩ (.int .i64 t)).ownsRow 0 e size v n xs := by
    intro v e size n xs ho hne
    refine own_keep ho (fun k hk => Below.heap_setCell _ _ _ _ ?_)
    obtain ⟨cur, hc⟩ := own_typ ho k hk
    exact ne_typ hc hg hne
  refine ⟨(Below.heap_setCell _ _ _ _ (ne_typ h.blk hg (by decide))).trans h.blk, nb h.o1 (by decide), nb h.o2 (by decide), nb h.o3 (by decide), nb h.o4 (by decide), ?_, h.d12, h.d13, h.d23, h.c0, h.c1, h.c2, h.c3, h.c4, h.c5⟩
  have := own_set h.o5 (j * 2 + 1) (.int .i64 t)
  rw [flatD_set1 _ j hj] at this
  show World.ownsRow _ 0 201 2 _ (r.fails.set j (r.fails[j].1, t)).length (flatD (r.fails.set j (r.fails[j].1, t)))
  rw [List.length_set]
  exact this

def clear1 (k : List UInt8) (x : Dk) : Dk := if x.1 = k then (x.1, 0) else x
def RS.forget (r : RS) (k : ByteArray) : RS := { r with fails := r.fails.map (clear1 k.data.toList) }
/-- j of them are mapped. -/
def upto (f : Dk → Dk) (l : List Dk) (j : Nat) : List Dk := (l.take j).map f ++ l.drop j
theorem upto_len (f : Dk → Dk) (l : List Dk) (j : Nat) : (upto f l j).length = l.length := by
  unfold upto
  rw [List.length_append, List.length_map, ← List.length_append, List.take_append_drop]
theorem upto_get (f : Dk → Dk) (l : List Dk) (j : Nat) (hj : j < l.length) : (upto f l j)[j]'(by rw [upto_len]; exact hj) = l[j] := by
  unfold upto
  have h1 : ((l.take j).map f).length = j := by rw [List.length_map, List.length_take]; omega
  have hm : min j l.length = j := by omega
  rw [List.getElem_append_right (by omega)]
  simp [hm]
theorem upto_set (f : Dk → Dk) (l : List Dk) (j : Nat) (hj : j < l.length) : (upto f l j).set j (f l[j]) = upto f l (j + 1) := by
  unfold upto
  have h1 : ((l.take j).map f).length = j := by rw [List.length_map, List.length_take]; omega
  rw [List.set_append_right _ _ (by omega), h1, Nat.sub_self, List.drop_eq_getElem_cons hj, List.set_cons_zero, List.take_succ_eq_append_getElem hj, List.map_append, List.append_assoc]
  rfl
theorem upto_same (f : Dk → Dk) (l : List Dk) (j : Nat) (hj : j < l.length) (h : f l[j] = l[j]) : upto f l (j + 1) = upto f l j := by
  rw [← upto_set f l j hj, h]
  have := upto_get f l j hj
  conv => lhs; rw [← this]
  exact List.set_getElem_self _
theorem upto_all (f : Dk → Dk) (l : List Dk) : upto f l l.length = l.map f := by simp [upto]

set_option maxRecDepth 100000 in
set_option maxHeartbeats 1000000 in
theorem rforget_any (h : IsR C w rb v1 v2 v3 v4 v5 r) (hl5 : r.fails.length ≤ 1999999999999) (k : ByteArray) (hs : k.size ≤ maxLen) (hno : noKeyB k = false) :
    Calls Tryz.prog 74 #[.pointer (some ⟨rb, 0, none⟩), .string k] w fun e w' => e = .returned (.int .i64 0) ∧ RIs C w w' rb (r.forget k) := by
  have h92 := fun w => noKey_any k w hs
  rw [hno] at h92
  have hlt := h.lt
  obtain ⟨ad, cap, e5, hcap, had0⟩ := row_form2 h.o5
  have had : 0 < r.fails.length → ∃ g, ad = some ⟨g, 0, none⟩ := fun hp => by obtain ⟨g, e, _⟩ := had0 hp; exact ⟨g, e⟩
  subst e5
  have HR0 : Hid (IsR C w rb v1 v2 v3 v4 (.slice ad r.fails.length cap) { r with fails := upto (clear1 k.data.toList) r.fails 0 } ∧ KeptC C w w) := ⟨by simpa [upto] using h, KeptC.refl _ _⟩
  clear h hno hs had0
  go_enter Tryz.func74, Tryz.ntmps74
  go_wp2_with fail
  refine (h92 _).mono ?_
  rintro e w' ⟨rfl, rfl⟩
  go_wp2
  go_loopw [6] (fun iv wr => ∃ j : Nat, j ≤ r.fails.length ∧ iv = .int .i64 j ∧ Hid (IsR C wr rb v1 v2 v3 v4 (.slice ad r.fails.length cap) { r with fails := upto (clear1 k.data.toList) r.fails j } ∧ KeptC C w' wr)) (fun iv _ => r.fails.length - (intOf iv).toNat)
  case atStart => exact ⟨0, Nat.zero_le _, rfl, HR0⟩
  case round =>
    obtain ⟨j, hj, rfl, HR⟩ := hrel
    clear HR0
    obtain ⟨hR, hK⟩ := HR.out
    have hrw := hR.lt
    have q5 := hR.q5
    by_cases hjl : j < r.fails.length
    · obtain ⟨g, rfl⟩ := had (by omega)
      have hjlt : ((j : Int) < (r.fails.length : Int)) := by omega
      have hul := upto_len (clear1 k.data.toList) r.fails j
      have ho5 := hR.o5
      obtain ⟨ad2, cap2, ee, _, hcc⟩ := row_form2 ho5
      have hju : j < (upto (clear1 k.data.toList) r.fails j).length := by rw [hul]; exact hjl
      obtain ⟨g2, eg, hgl, hcells⟩ := hcc (by show 0 < (upto (clear1 k.data.toList) r.fails j).length; omega)
      subst eg
      obtain rfl : g = g2 := by
        simp only [Value.slice.injEq] at ee
        simpa using ee.1
      obtain ⟨hx0, hx1⟩ := hcells j hju
      have hug := upto_get (clear1 k.data.toList) r.fails j hjl
      simp only at hx0 hx1
      rw [hug] at hx0 hx1
      have hfz : ∀ o, wr.frozen? ⟨g, o, none⟩ = false := fun o => by
        obtain ⟨cur, hc⟩ := own_typ ho5 g rfl
        simp [World.frozen?, hc]
      obtain ⟨xk, hxk⟩ : ∃ xk, xk = bk r.fails[j].1 := ⟨_, rfl⟩
      rw [← hxk] at hx0
      have HXK : Hid (xk = bk r.fails[j].1) := hxk
      have hnegr : g ≠ rb := by
        obtain ⟨cur, hc⟩ := own_typ ho5 g rfl
        exact ne_typ hc hR.blk (by decide)
      have HUS : Hid ((upto (clear1 k.data.toList) r.fails j).set j (clear1 k.data.toList r.fails[j]) = upto (clear1 k.data.toList) r.fails (j + 1)) := upto_set _ _ j hjl
      have HUM : Hid (clear1 k.data.toList r.fails[j] = r.fails[j] → upto (clear1 k.data.toList) r.fails (j + 1) = upto (clear1 k.data.toList) r.fails j) := upto_same _ _ j hjl
      have HSF : Hid (IsR C (wr.setCell ⟨g, j * 2 + 1, none⟩ (.int .i64 0)) rb v1 v2 v3 v4 (.slice (some ⟨g, 0, none⟩) r.fails.length cap) { r with fails := (upto (clear1 k.data.toList) r.fails j).set j (r.fails[j].1, 0) } ∧ KeptC C w' (wr.setCell ⟨g, j * 2 + 1, none⟩ (.int .i64 0))) := by
        have h5 : IsR C wr rb v1 v2 v3 v4 (.slice (some ⟨g, 0, none⟩) (upto (clear1 k.data.toList) r.fails j).length cap) { r with fails := upto (clear1 k.data.toList) r.fails j } := by rw [hul]; exact hR
        have := IsR.setFail (r := { r with fails := upto (clear1 k.data.toList) r.fails j }) h5 j hju 0
        simp only [hug] at this
        simp only [hul] at this
        exact ⟨this, hK.set (a := ⟨g, j * 2 + 1, none⟩) (hR.c5 g rfl) _⟩
      clear hxk hcells hcc hug hul hju ho5 hR hK had ee
      by_cases he : xk.toList = k.toList
      · have hb : (xk.toList == k.toList) = true := by simp [he]
        have HE : Hid (r.fails[j].1 = k.data.toList) := bk_eq_iff.1 (HXK.out.symm.trans ((ba_toList _ _).1 he))
        clear he
        go_wp2
        go_roundw
        case rel =>
          refine ⟨j + 1, by omega, by simp, ?_⟩
          have h1 := HUS.out
          rw [show clear1 k.data.toList r.fails[j] = (r.fails[j].1, 0) by rw [clear1, if_pos HE.out]] at h1
          unfold Hid
          rw [← h1]
          exact HSF.out
        case measure => simp [intOf]; omega
      · have hb : (xk.toList == k.toList) = false := by simp [he]
        have HE : Hid (¬ r.fails[j].1 = k.data.toList) := fun e => he (by rw [HXK.out, bk_eq_iff.2 e])
        clear he
        go_wp2
        go_roundw
        case rel =>
          refine ⟨j + 1, by omega, by simp, ?_⟩
          unfold Hid
          rw [HUM.out (by rw [clear1, if_neg HE.out])]
          exact HR.out
        case measure => simp [intOf]; omega
    · have hjn : ¬ ((j : Int) < (r.fails.length : Int)) := by omega
      have HRf : Hid (RIs C w' wr rb (r.forget k)) := by
        have e : j = r.fails.length := by omega
        rw [e, upto_all] at hR
        exact ⟨⟨_, _, _, _, _, hR⟩, hK⟩
      clear hR hK had HR
      go_wp2
      go_ret
      exact ⟨rfl, HRf.out⟩
end

end Go.Proofs.YtdgfjneapialdaaGreatDoor
