import Derived.Test.YtdgfjneapialdaaDoorWa
namespace Go.Proofs.YtdgfjneapialdaaDoor
open Go Go.RowKit Go.Maps

set_option maxRecDepth 100000 in
set_option maxHeartbeats 1000000 in
theorem write_3 (a0 a1 a2 : Int) (w : World) (sb mb : Nat) (lim ver cre : Int) (log : List Value) (n : Nat) (D : DataW Unit) [Inhabited (Obk 1)] (hI : Inv ver cre n D) (hT : Tab w) (hs1 : 1 < sb) (hm1 : 1 < mb) (h : IsStore w sb mb lim ver cre log n D) (b0 : -9223372036854775808 ≤ a0) (b0' : a0 ≤ 9223372036854775807) (b1 : -9223372036854775808 ≤ a1) (b1' : a1 ≤ 9223372036854775807) (b2 : -9223372036854775808 ≤ a2) (b2' : a2 ≤ 9223372036854775807) (hp : pickI a0 6 = 3) : Calls Tryd.prog 11 #[.pointer (some ⟨sb, 0, none⟩), .agg #[.int .i64 a0, .int .i64 a1, .int .i64 a2]] w fun e w' => e = .returned (.tuple #[]) ∧ Wr2 ver cre log n D w' sb mb lim ∧ Kept sb mb w w' := by
  have _u := And.intro hm1 (And.intro b2 b2')
  clear _u
  have hsb := h.lt
  have hmb := h.mlt
  have hv1 := hI.v1
  have hc1 := hI.c1
  have hnn := hI.nn
  have hc9 := list_any (w.alloc (.cells #[.int .i64 a0, .int .i64 a1, .int .i64 a2] 42)) sb mb lim ver cre log n D 1 (h.alloc _) (by omega) (by omega) (by omega) hI.good
  have hp9 := pickI_bd a2 3 (by omega)
  have HI : Hid (Inv ver cre n D) := hI
  have HS : Hid (IsStore w sb mb lim ver cre log n D) := h
  have HT : Hid (Tab w) := hT
  have hk6 := fun W => pick_any a0 6 W b0 b0' (by omega) (by omega)
  simp only [hp] at hk6
  clear hI h hT hp
  go_enter Tryd.func11, Tryd.ntmps11
  go_wp2_with fail
  refine hc9.mono ?_
  rintro e w1 ⟨v, l, rfl, hrow, hvn, hC, hsrt, hll, hb⟩
  have hS1 : Hid (IsStore w1 sb mb lim ver cre log n D) := HS.out.below (back9 hb)
  have hT1 : Hid (Tab w1) := HT.out.below (by omega) (back9 hb)
  have hact : Hid (w1.heap[w.heap.size]? = some (.cells #[.int .i64 a0, .int .i64 a1, .int .i64 a2] 42 (0, 0))) := (hb.block _ (by simp)).trans (alloc_last w _)
  have c0 : w1.cell? ⟨w.heap.size, 0, none⟩ = some (.int .i64 a0) := by simp [World.cell?, hact.out]
  have c1 : w1.cell? ⟨w.heap.size, 1, none⟩ = some (.int .i64 a1) := by simp [World.cell?, hact.out]
  have c2 : w1.cell? ⟨w.heap.size, 2, none⟩ = some (.int .i64 a2) := by simp [World.cell?, hact.out]
  clear hc9 hsrt
  rcases hrow.2 with ⟨rfl, hl00⟩ | ⟨g, cap, cur, rfl, hbase, hbk, hc1', hc2, hc3, hc4⟩
  · have hnm := podN_p1
    clear hrow hvn hC hl00 hll
    go_wp2_with fail
    refine (hk6 _).mono ?_
    rintro e w' ⟨rfl, rfl⟩
    go_wp2_with fail
    refine (pick_any a2 3 _ b2 b2' (by omega) (by omega)).mono ?_
    rintro e w' ⟨rfl, rfl⟩
    go_wp2_with fail
    refine (update_w 1 ⟨#[112, 49]⟩ 0 0 0 0 0 (pickI a2 3) false _ sb mb lim ver cre log n D HI.out hS1.out (by omega) (by omega) hnm.sz notX).mono ?_
    rintro e w2 ⟨⟨x, rfl⟩, hex, hK2⟩
    go_wp2
    go_end0
    exact ⟨rfl, Wr2.one hex, (belowKept (back9 hb)).trans hK2⟩
  · have hpos : 0 < l.length := by
      rcases Nat.eq_zero_or_pos l.length with e0 | e0
      · have := hvn.2 (List.length_eq_zero_iff.1 e0)
        cases this
      · exact e0
    have hpb := pickI_bd a1 l.length (by omega)
    obtain ⟨i, hi⟩ : ∃ i : Nat, pickI a1 l.length = (i : Int) := ⟨(pickI a1 l.length).toNat, by omega⟩
    have hil : i < l.length := by omega
    have hkA := fun W => pick_any a1 l.length W b1 b1' (by omega) (by omega)
    simp only [hi] at hkA
    obtain ⟨nm, hnmE⟩ : ∃ nm, nm = (l[i]).1.name := ⟨_, rfl⟩
    have hcn : w1.cell? ⟨g, i * 9 + 1, none⟩ = some (.string nm) := by
      rw [hrow.cellAt (i * 9 + 1) (by omega), flat_name l i hil, hnmE]
    have hnm : PodN nm := by
      have hx := hC.snd l[i] (List.getElem_mem hil)
      have ho := HI.out.all 1 _ _ (by omega) (by omega) hx.1 hx.2.1
      have hu1 := ho.u1
      have hu2 := ho.u2
      rw [hnmE, (ho.pod rfl).1]
      exact podN_of _ (by omega) (by omega)
    clear hnmE hrow hvn hC hbase hbk hc3 hc4 hi hpb
    go_wp2_with fail
    refine (hkA _).mono ?_
    rintro e w' ⟨rfl, rfl⟩
    go_wp2_with fail
    refine (hk6 _).mono ?_
    rintro e w' ⟨rfl, rfl⟩
    go_wp2_with fail
    refine (pick_any a2 3 _ b2 b2' (by omega) (by omega)).mono ?_
    rintro e w' ⟨rfl, rfl⟩
    go_wp2_with fail
    refine (update_w 1 nm 0 0 0 0 0 (pickI a2 3) false _ sb mb lim ver cre log n D HI.out hS1.out (by omega) (by omega) hnm.sz notX).mono ?_
    rintro e w2 ⟨⟨x, rfl⟩, hex, hK2⟩
    go_wp2
    go_end0
    exact ⟨rfl, Wr2.one hex, (belowKept (back9 hb)).trans hK2⟩

end Go.Proofs.YtdgfjneapialdaaDoor
