import Derived.Test.YtdgfjneapialdaaDoorYg
import Derived.Test.YtdgfjneapialdaaDoorXc
namespace Go.Proofs.YtdgfjneapialdaaDoor
open Go Go.RowKit Go.Maps

/-- The store, what was known at a version, and what was written since. -/
def RepS (w : World) (sb mb : Nat) (lim : Int) (base : Nat) (vk : Value) (seen : Int) : Prop :=
  ∃ ver cre f n D D0 es l, IsStore w sb mb lim ver cre (logOf f) n D ∧ Inv ver cre n D ∧ Hist D0 seen ver f es D ∧ KnownIs l D0 ∧ IsMap D0 ∧ w.ownsRow base 36 9 vk l.length (flatO l) ∧ (l.length : Int) ≤ seen ∧ 1 ≤ seen

def obX : Ob := ⟨0, setX, 1, 1, 1, 0, 0, 0, false⟩
def fX : Nat → Int × Ob := upd (fun _ => (0, Ob.zero)) 1 (0, obX)
def dX : DataW Unit := DataW.put (.map []) (klit 0 setX) obX.dat

theorem knownX : KnownIs [obX] dX := by
  have h0 : KnownIs [] (.map [] : DataW Unit) := ⟨fun x h => by simp at h, fun k s o _ _ ha => by have := ha.1; simp [has] at this, List.Pairwise.nil⟩
  have := h0.taken isMap_empty (so := 0) (o := obX) ⟨Or.inl rfl, setX_sz⟩
  exact this

theorem rep_create (w : World) (sb mb : Nat) (lim : Int) (hl : 1 ≤ lim) (hs1 : 1 < sb) (hm1 : 1 < mb) (h : IsStore w sb mb lim 0 0 zlog 0 (.map [])) :
    Calls Tryd.prog 10 #[.pointer (some ⟨sb, 0, none⟩), .agg #[.int .u8 0, .string ⟨#[120]⟩, .int .i64 0, .int .i64 0, .int .i64 1, .int .i64 0, .int .i64 0, .int .u8 0, .bool false]] w fun e w' => e = .returned (.tuple #[.agg #[.int .u8 0, .string ⟨#[120]⟩, .int .i64 1, .int .i64 1, .int .i64 1, .int .i64 0, .int .i64 0, .int .u8 0, .bool false], .int .i64 0]) ∧ IsStore w' sb mb lim 1 1 (logOf fX) 1 dX ∧ Inv 1 1 1 dX ∧ Kept sb mb w w' := by
  have hml : (0 : Nat) < maxLen := by unfold maxLen; omega
  have hc5 : ∀ W, IsStore W sb mb lim 0 0 zlog 0 (.map []) → Calls Tryd.prog 21 #[.pointer (some ⟨sb, 0, none⟩), .agg #[.int .u8 0, .string ⟨#[120]⟩, .int .i64 0, .int .i64 0, .int .i64 1, .int .i64 0, .int .i64 0, .int .u8 0, .bool false]] W fun e w' => e = .returned (.int .i64 0) ∧ Below W.heap.size W w' := fun W hW => may_full 0 ⟨#[120]⟩ 0 0 1 0 0 0 false W sb mb lim 0 0 zlog 0 (.map []) hW (by omega) (by omega) (by omega) setX_sz (by decide) rfl false (by simp [Maps.size]; omega)
  refine (create_ok 0 ⟨#[120]⟩ 0 0 1 0 0 0 false w sb mb lim 0 0 zlog 0 (.map []) ⟨#[120]⟩ h (by omega) (by omega) (by omega) (by omega) (by omega) (by omega) setX_sz hml hs1 hm1 hc5 (fun W _ _ => ownName_set ⟨#[120]⟩ (0 + 1) 0 1 0 0 0 false W (by simp [ByteArray.size]))).mono ?_
  rintro e w' ⟨rfl, hS, hK⟩
  have hI0 : Inv 0 0 0 (.map [] : DataW Unit) := ⟨by omega, by omega, by omega, by omega, by omega, isMap_empty, fun k s o _ _ _ ha => by have := ha.1; simp [has] at this⟩
  have hI1 := hI0.put (cre' := 0 + 1) (by omega) (by omega) (by omega) (k := 0) (s := setX) (o := ⟨0, setX, 0 + 1, 0 + 1, 1, 0, 0, 0, false⟩) (by omega) (by omega) setX_sz ⟨rfl, rfl, Or.inl rfl, by decide, by decide, by decide, by decide, fun _ => ⟨by decide, by decide, rfl, rfl, rfl⟩, fun e => (by cases e)⟩
  have hlg : logPut zlog 10 (evP (0, obX)) = logOf fX := logPut_logOf (fun _ => (0, Ob.zero)) 1 (by omega) (0, obX)
  exact ⟨rfl, by rw [← hlg]; exact hS, hI1, hK⟩

theorem row_one {w : World} {N base : Nat} {o : Ob} (hb : base ≤ N) (h : w.heap[N]? = some (.cells o.arr 36 (0, 0))) : w.ownsRow base 36 9 (.slice (some ⟨N, 0, none⟩) 1 1) [o].length (flatO [o]) :=
  ⟨rfl, Or.inr ⟨N, 1, o.arr, rfl, hb, h, Nat.le_refl _, by unfold maxLen; omega, rfl, rfl⟩⟩

theorem hist2 {D0 : DataW Unit} {v0 ver cre : Int} {f : Nat → Int × Ob} {es : List (Int × Ob)} {n : Nat} {D : DataW Unit} {w' : World} {sb mb : Nat} {lim : Int} (h : Hist D0 v0 ver f es D) (hw : Wr2 ver cre (logOf f) n D w' sb mb lim) :
    ∃ f' es' ver' cre' n' D', IsStore w' sb mb lim ver' cre' (logOf f') n' D' ∧ Inv ver' cre' n' D' ∧ Hist D0 v0 ver' f' es' D' := by
  obtain ⟨_, _, _, _, _, _, _, _, _, _, hW1, hW2, hS⟩ := hw
  obtain ⟨f1, es1, rfl, h1⟩ := h.wr hW1
  obtain ⟨f2, es2, rfl, h2⟩ := h1.wr hW2
  exact ⟨f2, es2, _, _, _, _, hS, hW2.inv, h2⟩

/-- The store and what is known, behind a look at the whole. -/
theorem repS_next {w0 W w9 : World} {sb mb base b5 : Nat} {lim ver cre seen : Int} {f : Nat → Int × Ob} {es : List (Int × Ob)} {n : Nat} {D D0 : DataW Unit} {l d6 d7 : List Ob} {v6 v9 : Value} (hS : IsStore W sb mb lim ver cre (logOf f) n D) (hI : Inv ver cre n D) (hH : Hist D0 seen ver f es D) (hK : KnownIs l D0) (hM : IsMap D0) (hls : (l.length : Int) ≤ seen) (hs1 : 1 ≤ seen)
    (hKN : KnownIs (d6 ++ d7) D) (hr6 : W.ownsRow b5 36 9 v6 d6.length (flatO d6)) (hrow9 : w9.ownsRow b5 36 9 v9 (d6 ++ d7).length (flatO (d6 ++ d7))) (hg9 : W.grownBy w9 v6.ownBlock) (hsb : sb < b5) (hmb : mb < b5) (hbase : base ≤ b5) (hb : Below w0.heap.size w0 W) (hB : w0.heap.size ≤ b5) : RepS w9 sb mb lim base v9 ver ∧ Below w0.heap.size w0 w9 := by
  have hne : ∀ j, j < b5 → some j ≠ v6.ownBlock := fun j hj e => by have := (hr6.lt j e.symm).1; omega
  have hl := hH.len
  refine ⟨⟨ver, cre, f, n, D, D, [], d6 ++ d7, hS.keep (hg9.block _ hS.lt (hne _ hsb)) (hg9.block _ hS.mlt (hne _ hmb)), hI, Hist.start _ _ _, hKN, hI.im, row_base hrow9 hbase, hH.bound hK hM hls hKN, by omega⟩, ?_⟩
  exact hb.grown hg9 hb.size fun j hj => by have := (hr6.lt j hj).1; omega

/-- One event of a row of events, cell by cell. -/
theorem ev_cells {w wr : World} {base g cap : Nat} {es : List (Int × Ob)} {j : Nat} (h : w.ownsRow base 49 10 (.slice (some ⟨g, 0, none⟩) es.length cap) es.length (es.flatMap evP)) (hb : Below w.heap.size w wr) (hj : j < es.length) :
    ∀ (t : Nat) (y : Value), t < 10 → (evP es[j])[t]? = some y → wr.cell? ⟨g, j * 10 + t, none⟩ = some y := by
  intro t y ht hy
  have := row_below h hb
  rw [this.cellAt (j * 10 + t) (by omega), flatMap_get evP 10 evP_len es j t hj ht, hy]

set_option maxRecDepth 100000 in
set_option maxHeartbeats 2000000 in
theorem replayed_any (lim0 ev : Int) (ad : Option Addr) (len cap : Nat) (ac : Nat → Int × Int × Int) (w : World) [Inhabited (Obk 0)] [Inhabited (Obk 1)] (hA : 0 < len → ∃ b off, ad = some ⟨b, off, none⟩ ∧ ActsAt w b off len ac) (hlen : len ≤ maxLen) (hT : Tab w) (hB : 1 < w.heap.size) (l0 : -9223372036854775808 ≤ lim0) (l1 : lim0 ≤ 9223372036854775807) (n0 : -9223372036854775808 ≤ ev) (n1 : ev ≤ 9223372036854775807) :
    Calls Tryd.prog 4 #[.int .i64 lim0, .slice ad len cap, .int .i64 ev] w fun e w' => e = .returned (.bool true) ∧ Below w.heap.size w w' := by
  unfold maxLen at hlen
  have hp := pickI_bd lim0 64 (by omega)
  have hpe := pickI_bd ev 30 (by omega)
  have HA : Hid (0 < len → ∃ b off, ad = some ⟨b, off, none⟩ ∧ ActsAt w b off len ac) := hA
  have HT : Hid (Tab w) := hT
  clear hA hT
  go_enter Tryd.func4, Tryd.ntmps4
  go_wp2_with fail
  refine (pick_any lim0 64 _ l0 l1 (by omega) (by omega)).mono ?_
  rintro e w' ⟨rfl, rfl⟩
  go_wp2_with fail
  refine (new_ok (1 + pickI lim0 64) _ (by omega) (by omega)).mono ?_
  rintro e w1 ⟨rfl, hS1, hb1⟩
  go_wp2_with fail
  refine (rep_create _ (w'.heap.size + 1) w'.heap.size (1 + pickI lim0 64) (by omega) (by omega) (by omega) hS1).mono ?_
  rintro e w2 ⟨rfl, hS2, hI2, hK2⟩
  have hsz2 : w'.heap.size + 1 < w2.heap.size := hS2.lt
  have hb2 : Hid (Below w'.heap.size w' w2) := hb1.trans (hK2.toBelow (by omega) (Nat.le_refl _) hb1.size)
  have HS2 : Hid (IsStore w2 (w'.heap.size + 1) w'.heap.size (1 + pickI lim0 64) 1 1 (logOf fX) 1 dX) := hS2
  have HI2 : Hid (Inv 1 1 1 dX) := hI2
  clear hS1 hb1 hK2 hS2 hI2
  go_wp2_with fail
  go_loopw [11, 12, 13] (fun vk sv i wr => ∃ (k : Nat) (seen : Int), k ≤ len ∧ i = .int .i64 k ∧ sv = .int .i64 seen ∧ Hid (RepS wr (w'.heap.size + 1) w'.heap.size (1 + pickI lim0 64) (w'.heap.size + 2) vk seen) ∧ Hid (Below w'.heap.size w' wr)) (fun _ _ i _ => len - (intOf i).toNat)
  case atStart =>
    refine ⟨0, 1, Nat.zero_le _, rfl, rfl, ⟨1, 1, fX, 1, dX, dX, [], [obX], (HS2.out.alloc _).alloc _, HI2.out, Hist.start _ _ _, knownX, HI2.out.im, row_one (by simp; omega) (alloc_last2 w2 _ _), by simp, by omega⟩, belowAl' (belowAl' hb2.out _) _⟩
  case round =>
    obtain ⟨k, seen, hk, rfl, rfl, HR, Hbw⟩ := hrel
    by_cases hlt : k < len
    · obtain ⟨b, off, rfl, hac⟩ := HA.out (by omega)
      obtain ⟨ver, cre, f, n, D, D0, es, l, hS, hI, hH, hKn, hM0, hrow, hls, hs1⟩ := HR.out
      have hbb := hac.lt
      have q0 : wr.cell? ⟨b, off + k * 3, none⟩ = some (.int .i64 (ac k).1) := (Hbw.out.cell (p := ⟨b, _, none⟩) hbb).trans (hac.c0 k hlt)
      have q1 : wr.cell? ⟨b, off + k * 3 + 1, none⟩ = some (.int .i64 (ac k).2.1) := (Hbw.out.cell (p := ⟨b, _, none⟩) hbb).trans (hac.c1 k hlt)
      have q2 : wr.cell? ⟨b, off + k * 3 + 2, none⟩ = some (.int .i64 (ac k).2.2) := (Hbw.out.cell (p := ⟨b, _, none⟩) hbb).trans (hac.c2 k hlt)
      have hTr : Tab wr := HT.out.below (by omega) Hbw.out
      have hc8 := write_any (ac k).1 (ac k).2.1 (ac k).2.2 wr (w'.heap.size + 1) w'.heap.size (1 + pickI lim0 64) ver cre (logOf f) n D hI hTr (by omega) (by omega) hS (hac.b0 k hlt).1 (hac.b0 k hlt).2 (hac.b1 k hlt).1 (hac.b1 k hlt).2 (hac.b2 k hlt).1 (hac.b2 k hlt).2
      have HH : Hid (Hist D0 seen ver f es D) := hH
      have HK : Hid (KnownIs l D0) := hKn
      have HM : Hid (IsMap D0) := hM0
      have HR1 := (show Hid _ from hrow)
      clear hS hTr HR hI hH hKn hM0 hrow hac
      go_wp2_with fail
      refine hc8.mono ?_
      rintro e w4 ⟨rfl, hW2, hK4⟩
      obtain ⟨f4, es4, ver4, cre4, n4, D4, hS4, hI4, hH4⟩ := hist2 HH.out hW2
      have hb4 : Hid (Below w'.heap.size w' w4) := Hbw.out.trans (hK4.toBelow (by omega) (Nat.le_refl _) Hbw.out.size)
      have HR4 := (show Hid _ from row_kept HR1.out hK4 (by omega) (by omega))
      clear hW2 hK4 hc8 q0 q1 q2 HR1
      have hne : 1 + pickI ev 30 ≠ 0 := by omega
      go_wp2_with fail
      refine (pick_any ev 30 _ n0 n1 (by omega) (by omega)).mono ?_
      rintro e w5 ⟨rfl, rfl⟩
      have hv4 := hI4.v1
      have hv40 := hI4.v0
      have hnn4 := hI4.nn
      have hle4 := hH4.len
      have HS4 : Hid (IsStore w5 (w'.heap.size + 1) w'.heap.size (1 + pickI lim0 64) ver4 cre4 (logOf f4) n4 D4) := hS4
      have HI4 : Hid (Inv ver4 cre4 n4 D4) := hI4
      have HH4 : Hid (Hist D0 seen ver4 f4 es4 D4) := hH4
      clear hS4 hI4 hH4 HH
      go_wp2_with fail
      case roundEnd =>
        go_roundw
        case rel => exact ⟨k + 1, seen, by omega, by simp, rfl, ⟨_, _, _, _, _, D0, es4, l, HS4.out, HI4.out, HH4.out, HK.out, HM.out, HR4.out, hls, hs1⟩, hb4⟩
        case measure => simp [intOf]; omega
      all_goals
        refine (list_any w5 (w'.heap.size + 1) w'.heap.size (1 + pickI lim0 64) ver4 cre4 (logOf f4) n4 D4 0 HS4.out (by omega) (by omega) (by omega) HI4.out.good).mono ?_
        rintro e w6 ⟨v6, l6, rfl, hr6, hv6, hC6, _, hl6, hb6⟩
        go_wp2_with fail
        refine (list_any w6 (w'.heap.size + 1) w'.heap.size (1 + pickI lim0 64) ver4 cre4 (logOf f4) n4 D4 1 (HS4.out.below hb6) (by omega) (by omega) (by omega) HI4.out.good).mono ?_
        rintro e w7 ⟨v7, l7, rfl, hr7, hv7, hC7, _, hl7, hb7⟩
        go_wp2_with fail
        have HC6 : Hid (Coll D4 0 (fun _ => false) l6) := hC6
        have HC7 : Hid (Coll D4 1 (fun _ => false) l7) := hC7
        have HKN : Hid (KnownIs (l6.map (·.1) ++ l7.map (·.1)) D4) := known_of_coll HI4.out.good hC6 hC7
        have HS7 : Hid (IsStore w7 (w'.heap.size + 1) w'.heap.size (1 + pickI lim0 64) ver4 cre4 (logOf f4) n4 D4) := (HS4.out.below hb6).below hb7
        have hb7' : Hid (Below w'.heap.size w' w7) := (hb4.out.trans (hb6.mono hb4.out.size)).trans (hb7.mono (Nat.le_trans hb4.out.size hb6.size))
        have HR6 : Hid (w7.ownsRow w5.heap.size 36 9 v6 (l6.map (·.1)).length (flatO (l6.map (·.1)))) := by
          unfold Hid
          rw [List.length_map, ← flat_is]
          exact row_below hr6 hb7
        have HR7 : Hid (w7.ownsRow w6.heap.size 36 9 v7 (l7.map (·.1)).length (flatO (l7.map (·.1)))) := by
          unfold Hid
          rw [List.length_map, ← flat_is]
          exact hr7
        have HRk := (show Hid _ from row_below (row_below HR4.out hb6) hb7)
        have hs5 := HS4.out.lt
        have hs56 := hb6.size
        have hs67 := hb7.size
        clear hr6 hr7 hC6 hC7 hb6 hb7 hv6 hv7 HR4 HS4
        generalize hd6 : l6.map (·.1) = d6 at HR6 HKN
        generalize hd7 : l7.map (·.1) = d7 at HR7 HKN
        have hd6l : d6.length ≤ n4 := by rw [← hd6, List.length_map]; exact hl6
        have hd7l : d7.length ≤ n4 := by rw [← hd7, List.length_map]; exact hl7
        clear hd6 hd7 hl6 hl7 HC6 HC7
        by_cases hold : 16 < ver4 - seen
        · refine (since_old w7 (w'.heap.size + 1) w'.heap.size (1 + pickI lim0 64) ver4 cre4 (logOf f4) n4 D4 seen HS7.out (by omega) (by omega) (by omega) hold).mono ?_
          rintro e w8 ⟨rfl, rfl⟩
          go_wp2_with (first
            | (at_builtin; refine append_rows rfl _ _ rfl w5.heap.size w6.heap.size v6 v7 d6 d7 rfl rfl HR6.out HR7.out (by omega) (by omega) ?_; intro v9 w9 hrow9 hg9; go_frame)
            | fail)
          go_roundw
          case rel =>
            obtain ⟨h1, h2⟩ := repS_next (w0 := w') (base := w'.heap.size + 2) HS7.out HI4.out HH4.out HK.out HM.out hls hs1 HKN.out HR6.out hrow9 hg9 (by omega) (by omega) (by omega) hb7'.out (by omega)
            exact ⟨k + 1, ver4, by omega, by simp, rfl, h1, h2⟩
          case measure => simp [intOf]; omega
        · refine (since_ok w7 (w'.heap.size + 1) w'.heap.size (1 + pickI lim0 64) ver4 cre4 f4 n4 D4 seen es4.length HS7.out (by omega) (by omega) hle4 (by omega)).mono ?_
          rintro e w8 ⟨vv, rfl, hrow8, ⟨c8, rfl⟩, hb8⟩
          rw [HH4.out.row (by omega)] at hrow8
          have HR8 := (show Hid _ from hrow8)
          have HS8 : Hid (IsStore w8 (w'.heap.size + 1) w'.heap.size (1 + pickI lim0 64) ver4 cre4 (logOf f4) n4 D4) := HS7.out.below hb8
          have hb8' : Hid (Below w'.heap.size w' w8) := hb7'.out.trans (hb8.mono hb7'.out.size)
          have HR6' := (show Hid _ from row_below HR6.out hb8)
          have HR7' := (show Hid _ from row_below HR7.out hb8)
          have HRk' := (show Hid _ from row_below HRk.out hb8)
          have hs78 := hb8.size
          clear hrow8 hb8 HS7 hb7' HR6 HR7 HRk
          go_wp2_with fail
          go_loopw [11, 20] (fun vk jv wr => ∃ (j : Nat) (lj : List Ob), j ≤ es4.length ∧ jv = .int .i64 j ∧ Hid (KnownIs lj ((es4.take j).foldl doneTo D0)) ∧ (lj.length : Int) ≤ seen + j ∧ Hid (wr.ownsRow (w'.heap.size + 2) 36 9 vk lj.length (flatO lj)) ∧ Hid (Below w8.heap.size w8 wr)) (fun _ jv _ => es4.length - (intOf jv).toNat)
          case atStart => exact ⟨0, l, Nat.zero_le _, rfl, HK.out, by omega, HRk'.out, Below.refl _ _⟩
          case round =>
            obtain ⟨j, lj, hj, rfl, HKj, hlj, HRj, Hbj⟩ := hrel
            by_cases hjl : j < es4.length
            · have hec := ev_cells HR8.out Hbj.out hjl
              have hxv := HH4.out.ver j hjl
              have hxo := HH4.out.ok es4[j] (List.getElem_mem hjl)
              have hkn := HKj.out.taken (HH4.out.take HM.out j) (so := es4[j].1) (o := es4[j].2) hxo
              have hft := foldl_take es4 D0 j hjl
              obtain ⟨x, hx⟩ : ∃ x, x = es4[j] := ⟨_, rfl⟩
              rw [← hx] at hec hxv hkn hft
              have hfk : KnownIs (takenL lj x.1 x.2) ((es4.take (j + 1)).foldl doneTo D0) := by rw [hft]; exact hkn
              have HFK : Hid (KnownIs (takenL lj x.1 x.2) ((es4.take (j + 1)).foldl doneTo D0)) := hfk
              have hxv' : x.2.version = seen + (j : Int) + 1 := by omega
              have e0 : wr.cell? ⟨w7.heap.size, j * 10, none⟩ = some (.int .u8 x.1) := hec 0 _ (by omega) rfl
              have e1 : wr.cell? ⟨w7.heap.size, j * 10 + 1, none⟩ = some (.int .u8 x.2.kind) := hec 1 _ (by omega) rfl
              have e2 : wr.cell? ⟨w7.heap.size, j * 10 + 2, none⟩ = some (.string x.2.name) := hec 2 _ (by omega) rfl
              have e3 : wr.cell? ⟨w7.heap.size, j * 10 + 3, none⟩ = some (.int .i64 x.2.uid) := hec 3 _ (by omega) rfl
              have e4 : wr.cell? ⟨w7.heap.size, j * 10 + 4, none⟩ = some (.int .i64 x.2.version) := hec 4 _ (by omega) rfl
              have e5 : wr.cell? ⟨w7.heap.size, j * 10 + 5, none⟩ = some (.int .i64 x.2.replicas) := hec 5 _ (by omega) rfl
              have e6 : wr.cell? ⟨w7.heap.size, j * 10 + 6, none⟩ = some (.int .i64 x.2.status) := hec 6 _ (by omega) rfl
              have e7 : wr.cell? ⟨w7.heap.size, j * 10 + 7, none⟩ = some (.int .i64 x.2.owner) := hec 7 _ (by omega) rfl
              have e8 : wr.cell? ⟨w7.heap.size, j * 10 + 8, none⟩ = some (.int .u8 x.2.phase) := hec 8 _ (by omega) rfl
              have e9 : wr.cell? ⟨w7.heap.size, j * 10 + 9, none⟩ = some (.bool x.2.gone) := hec 9 _ (by omega) rfl
              rw [hxv'] at e4
              have hct := taken_any wr (w'.heap.size + 2) _ lj x.1 x.2 HRj.out (by omega)
              rw [hxv'] at hct
              have htl := takenL_len lj x.1 x.2
              clear hec hxv hxo hkn hft hx hfk hxv'
              go_wp2_with fail
              refine hct.mono ?_
              rintro e w10 ⟨v10, rfl, hr10, hb10⟩
              go_wp2
              go_roundw
              case rel => exact ⟨j + 1, _, by omega, by simp, HFK, by push_cast; omega, row_base hr10 (by have := Hbj.out.size; omega), Hbj.out.trans (hb10.mono Hbj.out.size)⟩
              case measure => simp [intOf]; omega
            · have hje : j = es4.length := by omega
              subst hje
              have hlt2 : ¬ ((es4.length : Int) < (es4.length : Int)) := by omega
              have hkj := HKj.out
              rw [List.take_length, ← HH4.out.now] at hkj
              have hle := hkj.len_eq HKN.out
              rw [List.length_append] at hle
              obtain ⟨adj, capj, rfl, _⟩ := row_form HRj.out
              obtain ⟨ad6, cap6, rfl, _⟩ := row_form HR6'.out
              obtain ⟨ad7, cap7, rfl, _⟩ := row_form HR7'.out
              have hc6 := among_any wr (w'.heap.size + 2) w5.heap.size _ _ lj d6 HRj.out (row_below HR6'.out Hbj.out) (by omega) (by omega) (fun x hx => hkj.mem_of HKN.out x (List.mem_append.2 (Or.inl hx)))
              have hq : ((lj.length : Int) != (d6.length : Int) + (d7.length : Int)) = false := by simp; omega
              have HM7 : Hid (∀ x ∈ d7, x ∈ lj) := fun x hx => hkj.mem_of HKN.out x (List.mem_append.2 (Or.inr hx))
              clear hkj hle
              go_wp2_with fail
              refine hc6.mono ?_
              rintro e w11 ⟨rfl, hb11⟩
              go_wp2_with fail
              refine (among_any w11 (w'.heap.size + 2) w6.heap.size _ _ lj d7 (row_below HRj.out hb11) (row_below (row_below HR7'.out Hbj.out) hb11) (by omega) (by omega) HM7.out).mono ?_
              rintro e w12 ⟨rfl, hb12⟩
              have HR612 := (show Hid _ from row_below (row_below (row_below HR6'.out Hbj.out) hb11) hb12)
              have HR712 := (show Hid _ from row_below (row_below (row_below HR7'.out Hbj.out) hb11) hb12)
              have HS12 : Hid (IsStore w12 (w'.heap.size + 1) w'.heap.size (1 + pickI lim0 64) ver4 cre4 (logOf f4) n4 D4) := ((HS8.out.below Hbj.out).below hb11).below hb12
              have hz1 := Hbj.out.size
              have hz2 := hb11.size
              have hz3 := hb12.size
              have hb12' : Hid (Below w'.heap.size w' w12) := ((hb8'.out.trans (Hbj.out.mono hb8'.out.size)).trans (hb11.mono (by omega))).trans (hb12.mono (by omega))
              clear hb11 hb12 hc6
              go_wp2_with (first
                | (at_builtin; refine append_rows rfl _ _ rfl w5.heap.size w6.heap.size _ _ d6 d7 rfl rfl HR612.out HR712.out (by omega) (by omega) ?_; intro v9 w9 hrow9 hg9; go_frame)
                | fail)
              go_roundw
              case rel =>
                obtain ⟨h1, h2⟩ := repS_next (w0 := w') (base := w'.heap.size + 2) HS12.out HI4.out HH4.out HK.out HM.out hls hs1 HKN.out HR612.out hrow9 hg9 (by omega) (by omega) (by omega) hb12'.out (by omega)
                exact ⟨k + 1, ver4, by omega, by simp, rfl, h1, h2⟩
              case measure => simp [intOf]; omega
    · have hkl : k = len := by omega
      subst hkl
      have hlt2 : ¬ ((k : Int) < (k : Int)) := by omega
      go_wp2
      go_ret
      exact ⟨rfl, Hbw.out⟩

end Go.Proofs.YtdgfjneapialdaaDoor
