import Derived.Test.YtdgfjneapialdaaGreatDoorSw
import Derived.Test.YtdgfjneapialdaaGreatDoorSu
import Derived.Sort.OwnSorted
namespace Go.Proofs.YtdgfjneapialdaaGreatDoor.S
open Go Go.RowKit Go.Maps

theorem info29 : (Tryz.prog.info? 84).map (fun i => (i.zero, i.size, i.bytes)) = some (some (.agg #[.int .u8 0, .string ⟨#[]⟩, .int .i64 0, .int .i64 0, .int .i64 0, .int .i64 0, .int .i64 0, .int .u8 0, .bool false]), 9, 72) := by kernel_rfl

theorem belowAl' {w W : World} (h : Below w.heap.size w W) (o : Obj) : Below w.heap.size w (W.alloc o) := h.alloc h.size o
theorem alloc_lastv (w : World) (o : Obj) : (w.alloc o).heap[w.heap.size]? = some o := (MapKept.heap_alloc w o).1
theorem cell_nine_new (w : World) (x0 x1 x2 x3 x4 x5 x6 x7 x8 : Value) (t : TypeId) : ∀ j u, [x0, x1, x2, x3, x4, x5, x6, x7, x8][j]? = some u → (w.alloc (.cells #[x0, x1, x2, x3, x4, x5, x6, x7, x8] t)).cell? ((⟨w.heap.size, 0, none⟩ : Addr).add j) = some u := by
  intro j u h
  have e : (⟨w.heap.size, 0, none⟩ : Addr).add j = ⟨w.heap.size, j, none⟩ := by
    unfold Addr.add
    split
    · rename_i h0
      rw [h0]
    · simp
  rw [e]
  simp only [World.cell?, alloc_lastv]
  simpa using h

set_option maxRecDepth 100000 in
set_option maxHeartbeats 1000000 in
theorem list_any (w : World) (sb mb : Nat) (lim ver cre : Int) (log : List Value) (n : Nat) (D : DataW Unit) (kk : Int) [Inhabited (Obk kk)] (h : IsStore w sb mb lim ver cre log n D) (h0 : 0 ≤ kk) (h1 : kk ≤ 255) (hn : n ≤ 100000) (hG : GoodD D) :
    Calls Tryz.prog 38 #[.pointer (some ⟨sb, 0, none⟩), .int .u8 kk] w fun e w' => ∃ v l, e = .returned (.tuple #[v, .int .i64 ver]) ∧ w'.ownsRow w.heap.size 84 9 v l.length (flat l) ∧ (v = .slice none 0 0 ↔ l = []) ∧
      Coll D kk (fun _ => false) l ∧ (l.Pairwise fun a b => ltOf (cfk kk) b a = false) ∧ l.length ≤ n ∧ Below w.heap.size w w' := by
  have c3 := h.c3
  have c1 := h.c1
  have hsb := h.lt
  have hmb := h.mlt
  have hmap := h.map
  have HC1 : Hid (w.cell? ⟨sb, 1, none⟩ = some (.int .i64 ver)) := c1
  obtain ⟨i0, hi, hz0, hz1, hz2⟩ := info_parts info29
  clear h
  go_enter Tryz.func38, Tryz.ntmps38
  go_wp2_with (first
    | (at_range; refine wpList_range_own _ rfl _ 105 rfl 167 84 law58 Tryz.underlying105 objR mb n _ rfl hmap ?_; intro w0 hrg0 hg0 hs0)
    | go_in)
  go_frame
  go_loopw [6] (fun v wr => ∃ (left : Lit → Bool) (cnt : Nat) (l : List (Obk kk)), wr.ranges Tryz.prog 167 objR mb w.heap.size n D left cnt ∧ l.length + cnt ≤ n ∧
      wr.ownsRow (w.heap.size + 1) 84 9 v l.length (flat l) ∧ (v = .slice none 0 0 ↔ l = []) ∧ Coll D kk left l ∧ Below w.heap.size w wr ∧ w.heap.size + 1 ≤ wr.heap.size)
    (fun _ wr => wr.rangeLeft mb w.heap.size)
  case atStart =>
    exact ⟨_, _, [], hrg0, by have := hmap.size_le; simpa using this, ⟨rfl, Or.inl ⟨rfl, rfl⟩⟩, by simp, Coll.start D kk, (Below.refl _ _).grown hg0 (Nat.le_refl _) (fun j hj => by cases hj), by omega⟩
  case round =>
    obtain ⟨left, cnt, l, hrg, hln, hrow, hvn, hC, hnx, hws⟩ := hrel
    go_wp2_with (first
      | (at_next; refine wpList_next_ranges _ rfl _ rfl 167 law58 objR (fun x : Int × ByteArray => .agg #[.int .u8 x.1, .string x.2]) (fun o : Ob => .agg #[.int .u8 o.kind, .string o.name, .int .i64 o.uid, .int .i64 o.version, .int .i64 o.replicas, .int .i64 o.status, .int .i64 o.owner, .int .u8 o.phase, .bool o.gone]) ?invK ?invV mb w.heap.size n _ _ _ rfl hrg ?_ ?_)
      | go_in)
    · intro key kl hk
      obtain ⟨k, s, rfl, _⟩ := key58_inv hk
      exact ⟨(k, s), rfl⟩
    · intro v y hv
      obtain ⟨o, rfl, _⟩ := objR_inv hv
      exact ⟨o, rfl⟩
    · intro hc0 hl0
      have hC' : Coll D kk (fun _ => false) l := by
        have e : left = fun _ => false := funext hl0
        rw [e] at hC
        exact hC
      have hw1 : wr.cell? ⟨sb, 1, none⟩ = some (.int .i64 ver) := (hnx.cell (p := ⟨sb, 1, none⟩) hsb).trans HC1.out
      rcases hrow.2 with ⟨rfl, hl00⟩ | ⟨g, cap, cur, rfl, hbase, hb, hc1, hc2, hc3, hc4⟩
      · have hle : l = [] := List.length_eq_zero_iff.1 hl00
        subst hle
        have hs := sort_none none 0 wr
        go_wp2_with fail
        refine hs.mono ?_
        rintro e w' ⟨rfl, rfl⟩
        go_wp2_with fail
        go_region
        go_wp2
        go_ret2
        exact ⟨.slice none 0 0, [], rfl, ⟨rfl, Or.inl ⟨rfl, rfl⟩⟩, by simp, hC', List.Pairwise.nil, Nat.zero_le _, hnx.drew⟩
      · have hgl : g < wr.heap.size := (Array.getElem?_eq_some_iff.1 hb).1
        have hsz : l.toArray.size < 4611686018427387904 := by simp; omega
        have hs := sort_ob kk g cap l.toArray wr (holdsK_of l hb hc4) hgl hsz
        simp only [List.size_toArray] at hs
        go_wp2_with fail
        refine hs.mono ?_
        rintro e w' ⟨rfl, d', nn, os, hp, hds, hsrt, hw'⟩
        have hrow3 := ownsRow_sortedK (n := nn) (os := os) (base := w.heap.size) (l := l) (d := d') (by simpa using hds) (by omega) hb hc1 hc2 hc3
        have hg3 := grownBy_sortK (w := wr) (g := g) (n := nn) (os := os) d'
        rw [← hw'] at hrow3 hg3
        have hnx3 : Below w.heap.size w w' := hnx.grown hg3 hnx.size (fun j hj => by cases hj; omega)
        have hw3 : w'.cell? ⟨sb, 1, none⟩ = some (.int .i64 ver) := (hnx3.cell (p := ⟨sb, 1, none⟩) hsb).trans HC1.out
        have hdl : d'.toList.length = l.length := by simpa using hds
        clear hw' hs hw1
        go_wp2_with fail
        go_region
        go_wp2
        go_ret2
        refine ⟨_, d'.toList, rfl, ?_, ?_, ?_, hsrt, by omega, hnx3.drew⟩
        · exact hrow3
        · constructor
          · intro e; cases e
          · intro e
            exfalso
            have h00 : l = [] := List.length_eq_zero_iff.1 (by rw [← hdl, e]; rfl)
            have := hvn.2 h00
            cases this
        · exact ⟨fun x hx => hC'.snd x (by simpa using hp.mem_iff.1 hx), fun s o hs ha => (hC'.cmp s o hs ha).imp id fun ⟨x, hx, e⟩ => ⟨x, hp.mem_iff.2 (by simpa using hx), e⟩, (hp.pairwise_iff (fun {_ _} h => Ne.symm h)).2 (by simpa using hC'.nd)⟩
    · intro k' s' c kl yd yp w2 cnt2 hkey hlk hv hat hrg2 hlt hg2 hs2 hen
      obtain ⟨k1, s1, e1, rfl, hk0, hk1, hs1⟩ := key58_inv hkey
      simp only [keyV, Value.agg.injEq] at e1
      simp at e1
      obtain ⟨rfl, rfl⟩ := e1
      obtain ⟨o', e2, e3⟩ := objR_inv hv
      obtain ⟨c0, cs, c2, c3', c4, c5, c6, c7, c8⟩ := c
      have eo : o' = ⟨c0, cs, c2, c3', c4, c5, c6, c7, c8⟩ := by
        obtain ⟨d0, ds, d2, d3, d4, d5, d6, d7, d8⟩ := o'
        simp [Ob.arr] at e2
        simp [e2]
      subst eo
      have hat1 : At D k' s' ⟨c0, cs, c2, c3', c4, c5, c6, c7, c8⟩ := by
        have hd : yd = (Ob.mk c0 cs c2 c3' c4 c5 c6 c7 c8).dat := congrArg Prod.fst e3
        refine ⟨has_true_of_atKey hat, ?_⟩
        rw [hat, ← hd]
      clear e2 e3
      have HAT : Hid (At D k' s' ⟨c0, cs, c2, c3', c4, c5, c6, c7, c8⟩) := hat1
      have hrow2 := hrow.kept hg2 (Or.inr (row_ne_iter hrow hrg).symm)
      have hz2' : w.heap.size + 1 ≤ w2.heap.size := by omega
      have hnx2 : Below w.heap.size w w2 := hnx.grown hg2 hnx.size (fun j hj => by cases hj; exact Nat.le_refl _)
      clear hs2 hat hat1 hv hkey
      simp only at hen
      by_cases hkk : k' = kk
      · subst hkk
        have hko : c0 = k' := (hG k' s' _ hk0 hk1 hs1 HAT.out).1
        subst hko
        have hkn : cs = s' := (hG c0 s' _ hk0 hk1 hs1 HAT.out).2
        have HKN : Hid (cs = s') := hkn
        clear hkn
        have hrow4 := ((hrow2.alloc (.cells #[.int .u8 c0, .string s'] 167)).alloc (.cells #[.int .u8 c0, .string cs, .int .i64 c2, .int .i64 c3', .int .i64 c4, .int .i64 c5, .int .i64 c6, .int .u8 c7, .bool c8] 84)).alloc (.cells #[.int .u8 c0, .string cs, .int .i64 c2, .int .i64 c3', .int .i64 c4, .int .i64 c5, .int .i64 c6, .int .u8 c7, .bool c8] 84)
        have hnews : ∀ j u, [.int .u8 c0, .string cs, .int .i64 c2, .int .i64 c3', .int .i64 c4, .int .i64 c5, .int .i64 c6, .int .u8 c7, .bool c8][j]? = some u → (((w2.alloc (.cells #[.int .u8 c0, .string s'] 167)).alloc (.cells #[.int .u8 c0, .string cs, .int .i64 c2, .int .i64 c3', .int .i64 c4, .int .i64 c5, .int .i64 c6, .int .u8 c7, .bool c8] 84)).alloc (.cells #[.int .u8 c0, .string cs, .int .i64 c2, .int .i64 c3', .int .i64 c4, .int .i64 c5, .int .i64 c6, .int .u8 c7, .bool c8] 84)).cell? ((⟨w2.heap.size + 1 + 1, 0, none⟩ : Addr).add j) = some u := by
          have := cell_nine_new ((w2.alloc (.cells #[.int .u8 c0, .string s'] 167)).alloc (.cells #[.int .u8 c0, .string cs, .int .i64 c2, .int .i64 c3', .int .i64 c4, .int .i64 c5, .int .i64 c6, .int .u8 c7, .bool c8] 84)) (.int .u8 c0) (.string cs) (.int .i64 c2) (.int .i64 c3') (.int .i64 c4) (.int .i64 c5) (.int .i64 c6) (.int .u8 c7) (.bool c8) 84
          simpa using this
        have hone : ∀ u ∈ [Value.int .u8 c0, .string cs, .int .i64 c2, .int .i64 c3', .int .i64 c4, .int .i64 c5, .int .i64 c6, .int .u8 c7, .bool c8], u.oneCell' = true := by
          intro u hu
          simp only [List.mem_cons, List.not_mem_nil, or_false] at hu
          rcases hu with rfl | rfl | rfl | rfl | rfl | rfl | rfl | rfl | rfl <;> rfl
        have h63 : l.length + 1 ≤ maxLen := by unfold maxLen; omega
        have hby : (l.length + 1) * 72 ≤ 140737488355328 := by omega
        have hbs : w.heap.size + 1 ≤ (((w2.alloc (.cells #[.int .u8 c0, .string s'] 167)).alloc (.cells #[.int .u8 c0, .string cs, .int .i64 c2, .int .i64 c3', .int .i64 c4, .int .i64 c5, .int .i64 c6, .int .u8 c7, .bool c8] 84)).alloc (.cells #[.int .u8 c0, .string cs, .int .i64 c2, .int .i64 c3', .int .i64 c4, .int .i64 c5, .int .i64 c6, .int .u8 c7, .bool c8] 84)).heap.size := by simp; omega
        go_wp2_with (first
          | (at_builtin; refine wpList_append_own _ rfl _ _ 44 rfl (w.heap.size + 1) 84 i0 (.agg #[.int .u8 0, .string ⟨#[]⟩, .int .i64 0, .int .i64 0, .int .i64 0, .int .i64 0, .int .i64 0, .int .u8 0, .bool false]) 9 72 Tryz.underlying44 hi hz0 hz1 hz2 rfl (by decide) _ _ _ rfl hrow4 ⟨w2.heap.size + 1 + 1, 0, none⟩ 1 1 [.int .u8 c0, .string cs, .int .i64 c2, .int .i64 c3', .int .i64 c4, .int .i64 c5, .int .i64 c6, .int .u8 c7, .bool c8] rfl rfl hnews hone h63 hby hbs ?_; intro v' w3 hown' hg3 hnil3; go_frame)
          | go_in)
        have hrg4 := (((hrg2.alloc (.cells #[.int .u8 c0, .string s'] 167)).alloc (.cells #[.int .u8 c0, .string cs, .int .i64 c2, .int .i64 c3', .int .i64 c4, .int .i64 c5, .int .i64 c6, .int .u8 c7, .bool c8] 84)).alloc (.cells #[.int .u8 c0, .string cs, .int .i64 c2, .int .i64 c3', .int .i64 c4, .int .i64 c5, .int .i64 c6, .int .u8 c7, .bool c8] 84))
        have hrg3 := hrg4.kept hg3 (row_ne_low hrow4 (by omega)) (row_ne_iter hrow4 hrg4)
        go_roundw
        case rel =>
          refine ⟨_, cnt2, l ++ [⟨⟨c0, cs, c2, c3', c4, c5, c6, c7, c8⟩, rfl⟩], hrg3, by simp; omega, ?_, ?_, hC.step h0 h1 hs1 hG HAT.out hlk rfl, ?_, ?_⟩
          · rw [flat_snoc]
            simpa [Ob.arr] using hown'
          · constructor
            · intro e; exact absurd (hnil3.1 e).2 (by omega)
            · intro e; simp at e
          · exact (belowAl' (belowAl' (belowAl' hnx2 _) _) _).grown hg3 (by simp; omega) (fun j hj => by have := (hrow4.lt j hj).1; omega)
          · have := hg3.size
            simp at this
            omega
        case measure => rw [hrg3.left_eq, hrg.left_eq]; exact hlt
      · have hkb : (k' == kk) = false := by simpa using hkk
        clear hkk
        go_wp2
        go_roundw
        case rel =>
          exact ⟨_, cnt2, l, (hrg2.alloc _).alloc _, by omega, (hrow2.alloc _).alloc _, hvn, hC.skip h0 h1 hk0 hk1 hs1 (by simpa using hkb), belowAl' (belowAl' hnx2 _) _, by simp; omega⟩
        case measure => rw [((hrg2.alloc _).alloc _).left_eq, hrg.left_eq]; exact hlt

end Go.Proofs.YtdgfjneapialdaaGreatDoor.S
