import Derived.Test.YtdgfjneapialdaaGreatDoorPb
import Derived.Deep.AppendLies
namespace Go.Proofs.YtdgfjneapialdaaGreatDoor
open Go Go.RowKit Go.Maps Go.Lib Go.Sort

def RS.add (r : RS) (k : ByteArray) : RS :=
  if memB r.hand k then (if memB r.again k then r else { r with again := r.again ++ [k] })
  else (if memB r.row k then r else { r with row := r.row ++ [k] })

theorem grown_rb {w W : World} {rb : Nat} {cs : Array Value} (hb : w.heap[rb]? = some (.cells cs 128 (0, 0))) {base : Nat} {e : TypeId} {size : Nat} {v : Value} {n : Nat} {xs : List Value} (ho : w.ownsRow base e size v n xs) (hne : e ≠ 128) (k : w.grownBy W v.ownBlock) : W.heap[rb]? = w.heap[rb]? :=
  k.block rb (Array.getElem?_eq_some_iff.1 hb).1 (fun he => by
    obtain ⟨cur, hc⟩ := own_typ ho rb he.symm
    exact ne_typ hc hb hne rfl)
theorem cell_of_eq {w W : World} {rb : Nat} (h : W.heap[rb]? = w.heap[rb]?) (o : Nat) : W.cell? ⟨rb, o, none⟩ = w.cell? ⟨rb, o, none⟩ := World.cell?_of_block (a := ⟨rb, o, none⟩) h
theorem fz_of_eq {w W : World} {rb : Nat} (h : W.heap[rb]? = w.heap[rb]?) (o : Nat) : W.frozen? ⟨rb, o, none⟩ = w.frozen? ⟨rb, o, none⟩ := World.frozen?_of_block (a := ⟨rb, o, none⟩) h
theorem one_str (k : ByteArray) : ∀ u ∈ [Value.string k], u.oneCell' = true := by
  intro u hu
  simp only [List.mem_cons, List.not_mem_nil, or_false] at hu
  subst hu
  rfl

section
variable {C : Nat → Prop} {w : World} {rb : Nat} {v1 v2 v3 v4 v5 : Value} {r : RS}

set_option maxRecDepth 100000 in
set_option maxHeartbeats 1000000 in
theorem radd_any (h : IsR C w rb v1 v2 v3 v4 v5 r) (hC : ∀ b, C b → b < w.heap.size) (hl1 : r.row.length ≤ 1999999999999) (hl2 : r.hand.length ≤ 1999999999999) (hl3 : r.again.length ≤ 1999999999999) (k : ByteArray) (hs : k.size ≤ maxLen) (hno : noKeyB k = false) :
    Calls Tryz.prog 68 #[.pointer (some ⟨rb, 0, none⟩), .string k] w fun e w' => e = .returned (.int .i64 0) ∧ RIs C w w' rb (r.add k) := by
  have h92 := fun w => noKey_any k w hs
  rw [hno] at h92
  have h93a := holds_any h.o2 (by omega) k
  have h93b := holds_any h.o3 (by omega) k
  have h93c := holds_any h.o1 (by omega) k
  have q1 := h.q1
  have q2 := h.q2
  have q3 := h.q3
  have f1 := h.fz
  have hlt := h.lt
  obtain ⟨ao1, cap1, e1⟩ := own_form h.o1
  obtain ⟨ao2, cap2, e2⟩ := own_form h.o2
  obtain ⟨ao3, cap3, e3⟩ := own_form h.o3
  obtain ⟨i0, hi, z0, z1, z2⟩ := info_parts info9
  have H : Hid (IsR C w rb v1 v2 v3 v4 v5 r) := h
  have HC : Hid (∀ b, C b → b < w.heap.size) := hC
  clear h hC hno hs
  subst e1 e2 e3
  unfold RS.add
  cases hm2 : memB r.hand k with
  | true =>
    cases hm3 : memB r.again k with
    | true =>
      rw [hm2] at h93a
      rw [hm3] at h93b
      simp only [if_true]
      generalize memB r.row k = b1 at h93c
      clear hm2 hm3
      go_enter Tryz.func68, Tryz.ntmps68
      go_wp2_with fail
      refine (h92 _).mono ?_
      rintro e w' ⟨rfl, rfl⟩
      go_wp2_with fail
      refine h93a.mono ?_
      rintro e w' ⟨rfl, rfl⟩
      go_wp2_with fail
      refine h93b.mono ?_
      rintro e w' ⟨rfl, rfl⟩
      go_wp2_with fail
      refine h93c.mono ?_
      rintro e w' ⟨rfl, rfl⟩
      go_wp2
      go_ret
      exact ⟨rfl, ⟨_, _, _, _, _, H.out⟩, KeptC.refl _ _⟩
    | false =>
      rw [hm2] at h93a
      rw [hm3] at h93b
      simp only [if_true, Bool.false_eq_true, if_false]
      generalize memB r.row k = b1 at h93c
      clear hm2 hm3
      have hrow4 := H.out.o3.alloc (.cells #[.string k] 9)
      have hone := one_str k
      have h63 : r.again.length + 1 ≤ maxLen := by unfold maxLen; omega
      have hby : (r.again.length + 1) * 16 ≤ 140737488355328 := by omega
      go_enter Tryz.func68, Tryz.ntmps68
      go_wp2_with fail
      refine (h92 _).mono ?_
      rintro e w' ⟨rfl, rfl⟩
      go_wp2_with fail
      refine h93a.mono ?_
      rintro e w' ⟨rfl, rfl⟩
      go_wp2_with fail
      refine h93b.mono ?_
      rintro e w' ⟨rfl, rfl⟩
      go_wp2_with fail
      refine h93c.mono ?_
      rintro e w' ⟨rfl, rfl⟩
      go_wp2_with (first
        | (at_builtin; refine wpList_append_lies _ rfl _ _ 114 rfl 0 9 i0 (.string ⟨#[]⟩) 1 16 Tryz.underlying114 hi z0 z1 z2 rfl (by decide) (.slice ao3 r.again.length cap3) _ _ rfl hrow4 ⟨w'.heap.size, 0, none⟩ 1 1 [.string k] rfl rfl (cell_one_new _ _ _) hone (by decide) h63 hby (Nat.zero_le _) _ rfl ?_; intro g cap' w2 hown hgrow hat hglt; have er := grown_rb (H.out.alloc _).blk hrow4 (by decide) hgrow; have c3' := (cell_of_eq er 3).trans (H.out.alloc _).q3; have f3' := fun o => (fz_of_eq er o).trans ((H.out.alloc _).fz o); have HOW : Hid (w2.ownsRow 0 9 1 (.slice (some ⟨g, 0, none⟩) (r.again.length + 1) cap') (r.again.length + 1) (r.again.map Value.string ++ [.string k])) := hown; have HGR : Hid ((w'.alloc (.cells #[.string k] 9)).grownBy w2 (Value.slice ao3 r.again.length cap3).ownBlock) := hgrow; have HAT : Hid ((Value.slice ao3 r.again.length cap3).ownBlock = some g ∨ g = (w'.alloc (.cells #[.string k] 9)).heap.size) := hat; clear hown hgrow hat hglt er; go_frame)
        | go_in)
      go_ret
      refine ⟨rfl, ⟨_, _, _, _, _, (H.out.alloc (.cells #[.string k] 9)).set3 HGR.out (l := r.again ++ [k]) ?_ ?_ ?_⟩, ?_⟩
      · have := HOW.out
        simpa using this
      · intro b hb
        cases hb
        exact HAT.out.imp id (fun e => by rw [e]; exact Nat.le_refl _)
      · intro b hb
        have := HC.out b hb
        simp
        omega
      · exact (((KeptC.refl C _).alloc _).grown HGR.out (fun b e => H.out.c3 b e)).set (a := ⟨rb, 3, none⟩) H.out.c0 _
  | false =>
    cases hm1 : memB r.row k with
    | true =>
      rw [hm2] at h93a
      rw [hm1] at h93c
      simp only [Bool.false_eq_true, if_false, if_true]
      generalize memB r.again k = b1 at h93b
      clear hm2 hm1
      go_enter Tryz.func68, Tryz.ntmps68
      go_wp2_with fail
      refine (h92 _).mono ?_
      rintro e w' ⟨rfl, rfl⟩
      go_wp2_with fail
      refine h93a.mono ?_
      rintro e w' ⟨rfl, rfl⟩
      go_wp2_with fail
      refine h93b.mono ?_
      rintro e w' ⟨rfl, rfl⟩
      go_wp2_with fail
      refine h93c.mono ?_
      rintro e w' ⟨rfl, rfl⟩
      go_wp2
      go_ret
      exact ⟨rfl, ⟨_, _, _, _, _, H.out⟩, KeptC.refl _ _⟩
    | false =>
      rw [hm2] at h93a
      rw [hm1] at h93c
      simp only [Bool.false_eq_true, if_false]
      generalize memB r.again k = b1 at h93b
      clear hm2 hm1
      have hrow4 := H.out.o1.alloc (.cells #[.string k] 9)
      have hone := one_str k
      have h63 : r.row.length + 1 ≤ maxLen := by unfold maxLen; omega
      have hby : (r.row.length + 1) * 16 ≤ 140737488355328 := by omega
      go_enter Tryz.func68, Tryz.ntmps68
      go_wp2_with fail
      refine (h92 _).mono ?_
      rintro e w' ⟨rfl, rfl⟩
      go_wp2_with fail
      refine h93a.mono ?_
      rintro e w' ⟨rfl, rfl⟩
      go_wp2_with fail
      refine h93b.mono ?_
      rintro e w' ⟨rfl, rfl⟩
      go_wp2_with fail
      refine h93c.mono ?_
      rintro e w' ⟨rfl, rfl⟩
      go_wp2_with (first
        | (at_builtin; refine wpList_append_lies _ rfl _ _ 114 rfl 0 9 i0 (.string ⟨#[]⟩) 1 16 Tryz.underlying114 hi z0 z1 z2 rfl (by decide) (.slice ao1 r.row.length cap1) _ _ rfl hrow4 ⟨w'.heap.size, 0, none⟩ 1 1 [.string k] rfl rfl (cell_one_new _ _ _) hone (by decide) h63 hby (Nat.zero_le _) _ rfl ?_; intro g cap' w2 hown hgrow hat hglt; have er := grown_rb (H.out.alloc _).blk hrow4 (by decide) hgrow; have c3' := (cell_of_eq er 1).trans (H.out.alloc _).q1; have f3' := fun o => (fz_of_eq er o).trans ((H.out.alloc _).fz o); have HOW : Hid (w2.ownsRow 0 9 1 (.slice (some ⟨g, 0, none⟩) (r.row.length + 1) cap') (r.row.length + 1) (r.row.map Value.string ++ [.string k])) := hown; have HGR : Hid ((w'.alloc (.cells #[.string k] 9)).grownBy w2 (Value.slice ao1 r.row.length cap1).ownBlock) := hgrow; have HAT : Hid ((Value.slice ao1 r.row.length cap1).ownBlock = some g ∨ g = (w'.alloc (.cells #[.string k] 9)).heap.size) := hat; clear hown hgrow hat hglt er; go_frame)
        | go_in)
      go_ret
      refine ⟨rfl, ⟨_, _, _, _, _, (H.out.alloc (.cells #[.string k] 9)).set1 HGR.out (l := r.row ++ [k]) ?_ ?_ ?_⟩, ?_⟩
      · have := HOW.out
        simpa using this
      · intro b hb
        cases hb
        exact HAT.out.imp id (fun e => by rw [e]; exact Nat.le_refl _)
      · intro b hb
        have := HC.out b hb
        simp
        omega
      · exact (((KeptC.refl C _).alloc _).grown HGR.out (fun b e => H.out.c1 b e)).set (a := ⟨rb, 1, none⟩) H.out.c0 _
end

end Go.Proofs.YtdgfjneapialdaaGreatDoor
namespace Go.Proofs.YtdgfjneapialdaaGreatDoor
open Go Go.RowKit Go.Maps Go.Lib Go.Sort

theorem grown_below {w W : World} (h : Below w.heap.size w W) (row : Option Nat) : w.grownBy W row := ⟨h.os, h.tape, h.output, h.size, fun k hk _ => h.block k hk⟩

section
variable {C : Nat → Prop} {w : World} {rb : Nat} {v1 v2 v3 v4 v5 : Value} {r : RS}

set_option maxRecDepth 100000 in
set_option maxHeartbeats 1000000 in
theorem rtake_none (h : IsR C w rb v1 v2 v3 v4 v5 r) (he : r.row = []) :
    Calls Tryz.prog 76 #[.pointer (some ⟨rb, 0, none⟩)] w fun e w' => e = .returned (.tuple #[.string ⟨#[]⟩, .bool false]) ∧ RIs C w w' rb r := by
  have q1 := h.q1
  have hlt := h.lt
  obtain ⟨ao1, cap1, e1⟩ := own_form h.o1
  rw [he] at e1
  simp only [List.length_nil] at e1
  have H : Hid (IsR C w rb v1 v2 v3 v4 v5 r) := h
  clear h he
  subst e1
  go_enter Tryz.func76, Tryz.ntmps76
  go_wp2
  go_ret2
  exact ⟨rfl, ⟨_, _, _, _, _, H.out⟩, KeptC.refl _ _⟩

def RS.take (r : RS) (k : ByteArray) : RS := { r with row := lessL r.row k, hand := r.hand ++ [k] }

set_option maxRecDepth 100000 in
set_option maxHeartbeats 1000000 in
theorem rtake_some (h : IsR C w rb v1 v2 v3 v4 v5 r) (hC : ∀ b, C b → b < w.heap.size) (hl1 : r.row.length ≤ 1999999999999) (hl2 : r.hand.length ≤ 1999999999999) {k : ByteArray} {t : List ByteArray} (he : r.row = k :: t) :
    Calls Tryz.prog 76 #[.pointer (some ⟨rb, 0, none⟩)] w fun e w' => e = .returned (.tuple #[.string k, .bool true]) ∧ RIs C w w' rb (r.take k) := by
  have q1 := h.q1
  have f1 := h.fz
  have hlt := h.lt
  have h95 := less_any h.o1 (by omega) k
  obtain ⟨ao1, cap1, e1, had⟩ := row_form1 h.o1
  have hpos : 0 < r.row.length := by rw [he]; simp
  obtain ⟨g, rfl, _, hcells⟩ := had hpos
  have hc0 := hcells 0 hpos
  have hk0 : r.row[0] = k := by simp [he]
  rw [hk0] at hc0
  obtain ⟨ao2, cap2, e2⟩ := own_form h.o2
  obtain ⟨i0, hi, z0, z1, z2⟩ := info_parts info9
  have HN : Hid (∀ v' w1, w1.ownsRow w.heap.size 9 1 v' (lessL r.row k).length ((lessL r.row k).map Value.string) → Below w.heap.size w w1 → IsR C (w1.setCell ⟨rb, 1, none⟩ v') rb v' v2 v3 v4 v5 { r with row := lessL r.row k } ∧ KeptC C w (w1.setCell ⟨rb, 1, none⟩ v') ∧ w.heap.size ≤ (w1.setCell ⟨rb, 1, none⟩ v').heap.size) := by
    intro v' w1 ho hb
    refine ⟨h.set1 (grown_below hb _) (own_mono ho (Nat.zero_le _)) (fun b e => Or.inr (ho.lt b e).1) hC, (KeptC.of_below hb rfl).set (a := ⟨rb, 1, none⟩) h.c0 _, ?_⟩
    have := hb.size
    simpa [World.setCell] using this
  have HR1 : Hid (∀ w1, Below w.heap.size w w1 → w1.cell? ⟨rb, 1, none⟩ = some v1 ∧ ∀ o, w1.frozen? ⟨rb, o, none⟩ = false) := fun w1 hb => ⟨(h.below hb).q1, (h.below hb).fz⟩
  have HCC : Hid (∀ b, C b → b < w.heap.size) := hC
  have hn0 : (((r.row.length : Nat) : Int) == 0) = false := beq_eq_false_iff_ne.2 (by omega)
  unfold RS.take
  clear h hC he hk0 hcells had
  subst e1
  go_enter Tryz.func76, Tryz.ntmps76
  go_wp2_with fail
  refine h95.mono ?_
  rintro e w1 ⟨v', rfl, ho, hb⟩
  obtain ⟨hR, hK, hZ⟩ := HN.out v' w1 ho hb
  obtain ⟨c1', f1'⟩ := HR1.out w1 hb
  obtain ⟨aov, capv, ev⟩ := own_form ho
  subst ev
  have hq2 := hR.q2
  have hf2 := hR.fz
  subst e2
  have H2 : Hid (IsR C (w1.setCell ⟨rb, 1, none⟩ (.slice aov (lessL r.row k).length capv)) rb (.slice aov (lessL r.row k).length capv) (.slice ao2 r.hand.length cap2) v3 v4 v5 { r with row := lessL r.row k }) := hR
  have HK : Hid (KeptC C w (w1.setCell ⟨rb, 1, none⟩ (.slice aov (lessL r.row k).length capv))) := hK
  have HZ : Hid (w.heap.size ≤ (w1.setCell ⟨rb, 1, none⟩ (.slice aov (lessL r.row k).length capv)).heap.size) := hZ
  have hrow4 := hR.o2.alloc (.cells #[.string k] 9)
  have hone := one_str k
  have h63 : r.hand.length + 1 ≤ maxLen := by unfold maxLen; omega
  have hby : (r.hand.length + 1) * 16 ≤ 140737488355328 := by omega
  have hs1 : (w1.setCell ⟨rb, 1, none⟩ (.slice aov (lessL r.row k).length capv)).heap.size = w1.heap.size := by simp [World.setCell]
  have hnews : ∀ j u, [Value.string k][j]? = some u → ((w1.setCell ⟨rb, 1, none⟩ (.slice aov (lessL r.row k).length capv)).alloc (.cells #[.string k] 9)).cell? ((⟨w1.heap.size, 0, none⟩ : Addr).add j) = some u := by
    rw [← hs1]
    exact cell_one_new _ _ _
  have HS1 : Hid ((w1.setCell ⟨rb, 1, none⟩ (.slice aov (lessL r.row k).length capv)).heap.size = w1.heap.size) := hs1
  clear ho hb hR hK hZ h95 HN HR1 hs1
  go_wp2_with (first
    | (at_builtin; refine wpList_append_lies _ rfl _ _ 114 rfl 0 9 i0 (.string ⟨#[]⟩) 1 16 Tryz.underlying114 hi z0 z1 z2 rfl (by decide) (.slice ao2 r.hand.length cap2) _ _ rfl hrow4 ⟨w1.heap.size, 0, none⟩ 1 1 [.string k] rfl rfl hnews hone (by decide) h63 hby (Nat.zero_le _) _ rfl ?_; intro g2 cap' w2 hown hgrow hat hglt; have er := grown_rb (H2.out.alloc _).blk hrow4 (by decide) hgrow; have c3' := (cell_of_eq er 2).trans (H2.out.alloc _).q2; have f3' := fun o => (fz_of_eq er o).trans ((H2.out.alloc _).fz o); have HOW : Hid (w2.ownsRow 0 9 1 (.slice (some ⟨g2, 0, none⟩) (r.hand.length + 1) cap') (r.hand.length + 1) (r.hand.map Value.string ++ [.string k])) := hown; have HGR : Hid (((w1.setCell ⟨rb, 1, none⟩ (.slice aov (lessL r.row k).length capv)).alloc (.cells #[.string k] 9)).grownBy w2 (Value.slice ao2 r.hand.length cap2).ownBlock) := hgrow; have HAT : Hid ((Value.slice ao2 r.hand.length cap2).ownBlock = some g2 ∨ g2 = ((w1.setCell ⟨rb, 1, none⟩ (.slice aov (lessL r.row k).length capv)).alloc (.cells #[.string k] 9)).heap.size) := hat; clear hown hgrow hat hglt er; go_frame)
    | go_in)
  go_ret2
  refine ⟨rfl, ⟨_, _, _, _, _, (H2.out.alloc (.cells #[.string k] 9)).set2 HGR.out (l := r.hand ++ [k]) ?_ ?_ ?_⟩, ?_⟩
  · have := HOW.out
    simpa using this
  · intro b hb
    cases hb
    exact HAT.out.imp id (fun e => by rw [e]; exact Nat.le_refl _)
  · intro b hb
    have := HCC.out b hb
    have := HZ.out
    simp only [World.size_alloc]
    omega
  · exact ((HK.out.alloc _).grown HGR.out (fun b e => H2.out.c2 b e)).set (a := ⟨rb, 2, none⟩) H2.out.c0 _
end

end Go.Proofs.YtdgfjneapialdaaGreatDoor
namespace Go.Proofs.YtdgfjneapialdaaGreatDoor
open Go Go.RowKit Go.Maps Go.Lib Go.Sort

def RS.done (r : RS) (k : ByteArray) : RS := { r with hand := lessL r.hand k, again := lessL r.again k, row := if memB r.again k then r.row ++ [k] else r.row }
theorem size_set (w : World) (a : Addr) (v : Value) : (w.setCell a v).heap.size = w.heap.size := by simp [World.setCell]

section
variable {C : Nat → Prop} {w : World} {rb : Nat} {v1 v2 v3 v4 v5 : Value} {r : RS}

theorem IsR.fresh2 (h : IsR C w rb v1 v2 v3 v4 v5 r) (hC : ∀ b, C b → b < w.heap.size) {v' : Value} {w1 : World} {l : List ByteArray} (ho : w1.ownsRow w.heap.size 9 1 v' l.length (l.map Value.string)) (hb : Below w.heap.size w w1) :
    IsR C (w1.setCell ⟨rb, 2, none⟩ v') rb v1 v' v3 v4 v5 { r with hand := l } ∧ KeptC C w (w1.setCell ⟨rb, 2, none⟩ v') ∧ ∀ b, C b → b < (w1.setCell ⟨rb, 2, none⟩ v').heap.size :=
  ⟨h.set2 (grown_below hb _) (own_mono ho (Nat.zero_le _)) (fun b e => Or.inr (ho.lt b e).1) hC, (KeptC.of_below hb rfl).set (a := ⟨rb, 2, none⟩) h.c0 _, fun b hb' => by rw [size_set]; exact Nat.lt_of_lt_of_le (hC b hb') hb.size⟩
theorem IsR.fresh3 (h : IsR C w rb v1 v2 v3 v4 v5 r) (hC : ∀ b, C b → b < w.heap.size) {v' : Value} {w1 : World} {l : List ByteArray} (ho : w1.ownsRow w.heap.size 9 1 v' l.length (l.map Value.string)) (hb : Below w.heap.size w w1) :
    IsR C (w1.setCell ⟨rb, 3, none⟩ v') rb v1 v2 v' v4 v5 { r with again := l } ∧ KeptC C w (w1.setCell ⟨rb, 3, none⟩ v') ∧ ∀ b, C b → b < (w1.setCell ⟨rb, 3, none⟩ v').heap.size :=
  ⟨h.set3 (grown_below hb _) (own_mono ho (Nat.zero_le _)) (fun b e => Or.inr (ho.lt b e).1) hC, (KeptC.of_below hb rfl).set (a := ⟨rb, 3, none⟩) h.c0 _, fun b hb' => by rw [size_set]; exact Nat.lt_of_lt_of_le (hC b hb') hb.size⟩

set_option maxRecDepth 100000 in
set_option maxHeartbeats 1000000 in
theorem rdone_any (h : IsR C w rb v1 v2 v3 v4 v5 r) (hC : ∀ b, C b → b < w.heap.size) (hl1 : r.row.length ≤ 1999999999999) (hl2 : r.hand.length ≤ 1999999999999) (hl3 : r.again.length ≤ 1999999999999) (k : ByteArray) (hs : k.size ≤ maxLen) (hno : noKeyB k = false) :
    Calls Tryz.prog 78 #[.pointer (some ⟨rb, 0, none⟩), .string k] w fun e w' => e = .returned (.int .i64 0) ∧ RIs C w w' rb (r.done k) := by
  have h92 := fun w => noKey_any k w hs
  rw [hno] at h92
  have h93 := holds_any h.o3 (by omega) k
  have h95a := less_any h.o2 (by omega) k
  have q2 := h.q2
  have q3 := h.q3
  have f1 := h.fz
  have hlt := h.lt
  obtain ⟨ao1, cap1, e1⟩ := own_form h.o1
  obtain ⟨ao2, cap2, e2⟩ := own_form h.o2
  obtain ⟨ao3, cap3, e3⟩ := own_form h.o3
  obtain ⟨i0, hi, z0, z1, z2⟩ := info_parts info9
  have H : Hid (IsR C w rb v1 v2 v3 v4 v5 r) := h
  have HC : Hid (∀ b, C b → b < w.heap.size) := hC
  clear h hC hno hs
  subst e1 e2 e3
  unfold RS.done
  generalize hm : memB r.again k = bb at *
  clear hm
  go_enter Tryz.func78, Tryz.ntmps78
  go_wp2_with fail
  refine (h92 _).mono ?_
  rintro e w' ⟨rfl, rfl⟩
  go_wp2_with fail
  refine h93.mono ?_
  rintro e w' ⟨rfl, rfl⟩
  go_wp2_with fail
  refine h95a.mono ?_
  rintro e w1 ⟨va, rfl, hoa, hba⟩
  obtain ⟨aoa, capa, ea⟩ := own_form hoa
  subst ea
  obtain ⟨hR1, hK1, hC1⟩ := H.out.fresh2 HC.out hoa hba
  have c2' := (H.out.below hba).q2
  have f2' := (H.out.below hba).fz
  have q3' := hR1.q3
  have f3' := hR1.fz
  have h95b := less_any hR1.o3 (by show r.again.length ≤ _; omega) k
  have H1 : Hid (IsR C (w1.setCell ⟨rb, 2, none⟩ (.slice aoa (lessL r.hand k).length capa)) rb (.slice ao1 r.row.length cap1) (.slice aoa (lessL r.hand k).length capa) (.slice ao3 r.again.length cap3) v4 v5 { r with hand := lessL r.hand k }) := hR1
  have HK1 : Hid (KeptC C w' (w1.setCell ⟨rb, 2, none⟩ (.slice aoa (lessL r.hand k).length capa))) := hK1
  have HC1 : Hid (∀ b, C b → b < (w1.setCell ⟨rb, 2, none⟩ (.slice aoa (lessL r.hand k).length capa)).heap.size) := hC1
  clear hoa hba hR1 hK1 hC1 h95a h93 h92 q2 q3
  go_wp2_with fail
  refine h95b.mono ?_
  rintro e w2 ⟨vb, rfl, hob, hbb⟩
  obtain ⟨aob, capb, eb⟩ := own_form hob
  subst eb
  obtain ⟨hR2, hK2, hC2⟩ := H1.out.fresh3 HC1.out hob hbb
  have c3' := (H1.out.below hbb).q3
  have f4' := (H1.out.below hbb).fz
  have q1' := hR2.q1
  have f5' := hR2.fz
  have H2 : Hid (IsR C (w2.setCell ⟨rb, 3, none⟩ (.slice aob (lessL r.again k).length capb)) rb (.slice ao1 r.row.length cap1) (.slice aoa (lessL r.hand k).length capa) (.slice aob (lessL r.again k).length capb) v4 v5 { r with hand := lessL r.hand k, again := lessL r.again k }) := hR2
  have HK2 : Hid (KeptC C w' (w2.setCell ⟨rb, 3, none⟩ (.slice aob (lessL r.again k).length capb))) := HK1.out.trans hK2
  have HC2 : Hid (∀ b, C b → b < (w2.setCell ⟨rb, 3, none⟩ (.slice aob (lessL r.again k).length capb)).heap.size) := hC2
  have hs2 := size_set w2 ⟨rb, 3, none⟩ (.slice aob (lessL r.again k).length capb)
  have hnews : ∀ j u, [Value.string k][j]? = some u → ((w2.setCell ⟨rb, 3, none⟩ (.slice aob (lessL r.again k).length capb)).alloc (.cells #[.string k] 9)).cell? ((⟨w2.heap.size, 0, none⟩ : Addr).add j) = some u := by
    rw [← hs2]
    exact cell_one_new _ _ _
  have hrow4 := hR2.o1.alloc (.cells #[.string k] 9)
  have hone := one_str k
  have h63 : r.row.length + 1 ≤ maxLen := by unfold maxLen; omega
  have hby : (r.row.length + 1) * 16 ≤ 140737488355328 := by omega
  clear hob hbb hR2 hK2 hC2 h95b hs2 c2' f2' q3' f3' H1 HK1 HC1
  cases bb with
  | true =>
    go_wp2_with (first
      | (at_builtin; refine wpList_append_lies _ rfl _ _ 114 rfl 0 9 i0 (.string ⟨#[]⟩) 1 16 Tryz.underlying114 hi z0 z1 z2 rfl (by decide) (.slice ao1 r.row.length cap1) _ _ rfl hrow4 ⟨w2.heap.size, 0, none⟩ 1 1 [.string k] rfl rfl hnews hone (by decide) h63 hby (Nat.zero_le _) _ rfl ?_; intro g2 cap' w3 hown hgrow hat hglt; have er := grown_rb (H2.out.alloc _).blk hrow4 (by decide) hgrow; have c5' := (cell_of_eq er 1).trans (H2.out.alloc _).q1; have f6' := fun o => (fz_of_eq er o).trans ((H2.out.alloc _).fz o); have HOW : Hid (w3.ownsRow 0 9 1 (.slice (some ⟨g2, 0, none⟩) (r.row.length + 1) cap') (r.row.length + 1) (r.row.map Value.string ++ [.string k])) := hown; have HGR : Hid (((w2.setCell ⟨rb, 3, none⟩ (.slice aob (lessL r.again k).length capb)).alloc (.cells #[.string k] 9)).grownBy w3 (Value.slice ao1 r.row.length cap1).ownBlock) := hgrow; have HAT : Hid ((Value.slice ao1 r.row.length cap1).ownBlock = some g2 ∨ g2 = ((w2.setCell ⟨rb, 3, none⟩ (.slice aob (lessL r.again k).length capb)).alloc (.cells #[.string k] 9)).heap.size) := hat; clear hown hgrow hat hglt er; go_frame)
      | go_in)
    go_ret
    refine ⟨rfl, ⟨_, _, _, _, _, (H2.out.alloc (.cells #[.string k] 9)).set1 HGR.out (l := r.row ++ [k]) ?_ ?_ ?_⟩, ?_⟩
    · have := HOW.out
      simpa using this
    · intro b hb
      cases hb
      exact HAT.out.imp id (fun e => by rw [e]; exact Nat.le_refl _)
    · intro b hb
      have := HC2.out b hb
      simp only [World.size_alloc]
      omega
    · exact ((HK2.out.alloc _).grown HGR.out (fun b e => H2.out.c1 b e)).set (a := ⟨rb, 1, none⟩) H2.out.c0 _
  | false =>
    go_wp2
    go_ret
    exact ⟨rfl, ⟨_, _, _, _, _, H2.out⟩, HK2.out⟩
end

end Go.Proofs.YtdgfjneapialdaaGreatDoor
