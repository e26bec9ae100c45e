import Derived.Test.YtdgfjneapialdaaGreatDoorPc
import Derived.Deep.QuietTactic
import Derived.BigQuiet
namespace Go.Proofs.YtdgfjneapialdaaGreatDoor
open Go Go.RowKit Go.Maps Go.Lib Go.Sort

theorem flatD_at0 : ∀ (l : List Dk) (j : Nat) (hj : j < l.length), (flatD l)[j * 2]? = some (Value.string (bk l[j].1))
  | [], j, hj => by simp at hj
  | x :: r, 0, _ => by simp [flatD_cons, encD, enc_bk]
  | x :: r, j + 1, hj => by
    have ih := flatD_at0 r j (by simpa using hj)
    rw [flatD_cons, show (j + 1) * 2 = j * 2 + 2 by omega, List.getElem?_append_right (by rw [encD_len]; omega), encD_len, Nat.add_sub_cancel, ih]
    simp
theorem flatD_at1 : ∀ (l : List Dk) (j : Nat) (hj : j < l.length), (flatD l)[j * 2 + 1]? = some (Value.int .i64 l[j].2)
  | [], j, hj => by simp at hj
  | x :: r, 0, _ => by simp [flatD_cons, encD]
  | x :: r, j + 1, hj => by
    have ih := flatD_at1 r j (by simpa using hj)
    rw [flatD_cons, show (j + 1) * 2 + 1 = j * 2 + 1 + 2 by omega, List.getElem?_append_right (by rw [encD_len]; omega), encD_len, Nat.add_sub_cancel, ih]
    simp
/-- A row of pairs, read. -/
theorem row_form2 {w : World} {base : Nat} {et : TypeId} {v : Value} {l : List Dk} (h : w.ownsRow base et 2 v l.length (flatD l)) :
    ∃ ad cap, v = .slice ad l.length cap ∧ l.length ≤ cap ∧ (0 < l.length → ∃ g, ad = some ⟨g, 0, none⟩ ∧ g < w.heap.size ∧ ∀ j (hj : j < l.length), w.cell? ⟨g, j * 2, none⟩ = some (.string (bk l[j].1)) ∧ w.cell? ⟨g, j * 2 + 1, none⟩ = some (.int .i64 l[j].2)) := by
  have hcc := fun g => h.cells (g := g)
  rcases h.2 with ⟨rfl, h0⟩ | ⟨g, cap, cur, rfl, _, hb, hcap, _⟩
  · exact ⟨none, 0, by rw [h0], by omega, fun h => absurd h (by omega)⟩
  · refine ⟨_, cap, rfl, hcap, fun _ => ⟨g, rfl, (Array.getElem?_eq_some_iff.1 hb).1, fun j hj => ⟨?_, ?_⟩⟩⟩
    · have := hcc g rfl (j * 2) _ (flatD_at0 l j hj)
      rwa [Addr.add_lit, Nat.zero_add] at this
    · have := hcc g rfl (j * 2 + 1) _ (flatD_at1 l j hj)
      rwa [Addr.add_lit, Nat.zero_add] at this

theorem info84 : (Tryz.prog.info? 119).map (fun i => (i.zero, i.size, i.bytes)) = some (some (.agg #[.string ⟨#[]⟩, .int .i64 0]), 2, 24) := by kernel_rfl
theorem cell_two_new (w : World) (x0 x1 : Value) (t : TypeId) : ∀ j u, [x0, x1][j]? = some u → (w.alloc (.cells #[x0, x1] t)).cell? ((⟨w.heap.size, 0, none⟩ : Addr).add j) = some u := by
  intro j u h
  have e : (⟨w.heap.size, 0, none⟩ : Addr).add j = ⟨w.heap.size, j, none⟩ := by
    unfold Addr.add
    split
    · rename_i h0
      rw [h0]
    · simp
  rw [e]
  simp only [World.cell?, (MapKept.heap_alloc w _).1]
  simpa using h
theorem one_two (k : ByteArray) (c : Int) : ∀ u ∈ [Value.string k, .int .i64 c], u.oneCell' = true := by
  intro u hu
  simp only [List.mem_cons, List.not_mem_nil, or_false] at hu
  rcases hu with rfl | rfl <;> rfl

def others (k : List UInt8) (l : List Dk) : List Dk := l.filter fun x => decide (x.1 ≠ k)
def soonT (k : List UInt8) (t : Int) (l : List Dk) : Int := l.foldl (fun t x => if x.1 = k ∧ x.2 < t then x.2 else t) t
def RS.dueIn (r : RS) (k : ByteArray) (t : Int) : RS := { r with dues := others k.data.toList r.dues ++ [(k.data.toList, soonT k.data.toList (r.ck + t) r.dues)] }
theorem others_snoc (k : List UInt8) (l : List Dk) (j : Nat) (hj : j < l.length) : others k (l.take (j + 1)) = others k (l.take j) ++ (if l[j].1 = k then [] else [l[j]]) := by
  unfold others
  rw [List.take_succ_eq_append_getElem hj, List.filter_append]
  by_cases e : l[j].1 = k <;> simp [e]
theorem soonT_snoc (k : List UInt8) (t : Int) (l : List Dk) (j : Nat) (hj : j < l.length) : soonT k t (l.take (j + 1)) = if l[j].1 = k ∧ l[j].2 < soonT k t (l.take j) then l[j].2 else soonT k t (l.take j) := by
  unfold soonT
  rw [List.take_succ_eq_append_getElem hj, List.foldl_append]
  rfl
theorem others_len (k : List UInt8) (l : List Dk) : (others k l).length ≤ l.length := List.length_filter_le _ _
theorem bk_eq_iff {a : List UInt8} {k : ByteArray} : bk a = k ↔ a = k.data.toList := by
  constructor
  · intro h; rw [← h]; rfl
  · intro h; rw [h]; exact bk_data k
theorem two_cells {w : World} {b : Nat} {x y : Value} {t : TypeId} (h : w.heap[b]? = some (.cells #[x, y] t (0, 0))) : w.cell? ⟨b, 0, none⟩ = some x ∧ w.cell? ⟨b, 1, none⟩ = some y ∧ ∀ o, w.frozen? ⟨b, o, none⟩ = false := by
  refine ⟨?_, ?_, fun o => ?_⟩ <;> simp [World.cell?, World.frozen?, h]
theorem set_two {w : World} {b : Nat} {x y x' y' : Value} {t : TypeId} (h : w.heap[b]? = some (.cells #[x, y] t (0, 0))) : ((w.setCell ⟨b, 0, none⟩ x').setCell ⟨b, 1, none⟩ y').heap[b]? = some (.cells #[x', y'] t (0, 0)) := by
  rw [heap_setCell_at (heap_setCell_at h 0 x') 1 y']
  simp
theorem belowDN {B : Nat} {w W : World} (h : Below B w W) (n : Nat) : Below B w (W.drewN n) := ⟨h.os, h.tape, h.output, h.size, h.block⟩
theorem below_set {w W : World} (h : Below w.heap.size w W) {a : Addr} (ha : w.heap.size ≤ a.block) (v : Value) : Below w.heap.size w (W.setCell a v) :=
  ⟨h.os, h.tape, h.output, by simpa [World.setCell] using h.size, fun i hi => (Below.heap_setCell W a v i (by omega)).trans (h.block i hi)⟩

section
variable {C : Nat → Prop} {w : World} {rb : Nat} {v1 v2 v3 v4 v5 : Value} {r : RS}

set_option maxRecDepth 100000 in
set_option maxHeartbeats 1000000 in
theorem rafter_pos (h : IsR C w rb v1 v2 v3 v4 v5 r) (hC : ∀ b, C b → b < w.heap.size) (hl4 : r.dues.length ≤ 1999999999999) (k : ByteArray) (hs : k.size ≤ maxLen) (hno : noKeyB k = false) (t : Int) (ht : 0 < t) (h0 : 0 ≤ r.ck) (h1 : r.ck ≤ 4611686018427387904) :
    Calls Tryz.prog 70 #[.pointer (some ⟨rb, 0, none⟩), .string k, .int .i64 t] w fun e w' => e = .returned (.int .i64 0) ∧ RIs C w w' rb (r.dueIn k (min t 1000)) := by
  have h92 := fun w => noKey_any k w hs
  rw [hno] at h92
  have q0 := h.q0
  have hlt := h.lt
  have ht0 : decide (t ≤ 0) = false := decide_eq_false (by omega)
  have H : Hid (IsR C w rb v1 v2 v3 v4 v5 r) := h
  have HC : Hid (∀ b, C b → b < w.heap.size) := hC
  have hcw := h.q4
  obtain ⟨ad, cap, e4, hcap, had⟩ := row_form2 h.o4
  have HAD : Hid (0 < r.dues.length → ∃ g, ad = some ⟨g, 0, none⟩ ∧ g < w.heap.size ∧ ∀ j (hj : j < r.dues.length), w.cell? ⟨g, j * 2, none⟩ = some (.string (bk r.dues[j].1)) ∧ w.cell? ⟨g, j * 2 + 1, none⟩ = some (.int .i64 r.dues[j].2)) := had
  obtain ⟨i0, hi, z0, z1, z2⟩ := info_parts info84
  subst e4
  have HQ4 : Hid (w.cell? ⟨rb, 4, none⟩ = some (.slice ad r.dues.length cap)) := hcw
  clear h hC hno hs had hcw
  generalize hck : r.ck = ck at *
  have HCK : Hid (r.ck = ck) := hck
  clear hck
  by_cases h1000 : 1000 < t
  · have hg : decide (t > 1000) = true := decide_eq_true h1000
    have HM : Hid (min t 1000 = 1000) := by unfold Hid; omega
    have hl0 : r.dues.length ≤ 1999999999999 := hl4
    go_enter Tryz.func70, Tryz.ntmps70
    go_wp2_with fail
    refine (h92 _).mono ?_
    rintro e w' ⟨rfl, rfl⟩
    go_wp2
    have HD0 : Hid ((w'.alloc (.cells #[.string k, .int .i64 (ck + 1000)] 119)).heap[w'.heap.size]? = some (.cells #[.string k, .int .i64 (ck + 1000)] 119 (0, 0))) := (MapKept.heap_alloc _ _).1
    have HB0 : Hid (Below w'.heap.size w' (w'.alloc (.cells #[.string k, .int .i64 (ck + 1000)] 119))) := belowAl (Below.refl _ _) _
    have HZ0 : Hid (w'.heap.size + 1 ≤ (w'.alloc (.cells #[.string k, .int .i64 (ck + 1000)] 119)).heap.size) := by unfold Hid; simp
    generalize w'.alloc (.cells #[.string k, .int .i64 (ck + 1000)] 119) = W0 at *
    go_loopw [10, 9] (fun i vo wr => ∃ j : Nat, j ≤ r.dues.length ∧ i = .int .i64 j ∧ wr.ownsRow (w'.heap.size + 1) 119 2 vo (others k.data.toList (r.dues.take j)).length (flatD (others k.data.toList (r.dues.take j))) ∧ Hid (wr.heap[w'.heap.size]? = some (.cells #[.string k, .int .i64 (soonT k.data.toList (ck + 1000) (r.dues.take j))] 119 (0, 0))) ∧ Hid (Below w'.heap.size w' wr) ∧ Hid (w'.heap.size + 1 ≤ wr.heap.size)) (fun i _ _ => r.dues.length - (intOf i).toNat)
    case atStart => exact ⟨0, Nat.zero_le _, rfl, ⟨rfl, Or.inl ⟨rfl, rfl⟩⟩, HD0, HB0, HZ0⟩
    case round =>
      obtain ⟨j, hj, rfl, hrow, HD, HB, HZ⟩ := hrel
      clear HD0 HB0 HZ0
      have q4 : wr.cell? ⟨rb, 4, none⟩ = some (.slice ad r.dues.length cap) := (HB.out.cell (p := ⟨rb, 4, none⟩) hlt).trans HQ4.out
      obtain ⟨d0, d1, df⟩ := two_cells HD.out
      obtain ⟨dt, hdt⟩ : ∃ dt, dt = soonT k.data.toList (ck + 1000) (r.dues.take j) := ⟨_, rfl⟩
      rw [← hdt] at d1
      have HDT : Hid (dt = soonT k.data.toList (ck + 1000) (r.dues.take j)) := hdt
      clear hdt
      have hol := others_len k.data.toList (r.dues.take j)
      rw [List.length_take] at hol
      have hrlt : rb < wr.heap.size := by have := HB.out.size; omega
      by_cases hjl : j < r.dues.length
      · obtain ⟨g, hg', hgl, hcc⟩ := HAD.out (by omega)
        subst hg'
        obtain ⟨hk0, hk1⟩ := hcc j hjl
        have hx0 := (HB.out.cell (p := ⟨g, j * 2, none⟩) hgl).trans hk0
        have hx1 := (HB.out.cell (p := ⟨g, j * 2 + 1, none⟩) hgl).trans hk1
        obtain ⟨xk, hxk⟩ : ∃ xk, xk = bk r.dues[j].1 := ⟨_, rfl⟩
        obtain ⟨xt, hxt⟩ : ∃ xt, xt = r.dues[j].2 := ⟨_, rfl⟩
        rw [← hxk] at hx0
        rw [← hxt] at hx1
        have HXK : Hid (xk = bk r.dues[j].1) := hxk
        have HXT : Hid (xt = r.dues[j].2) := hxt
        have hjlt : ((j : Int) < (r.dues.length : Int)) := by omega
        clear hxk hxt hk0 hk1 hcc HAD HQ4
        by_cases he : xk.toList = k.toList
        · have hb : (xk.toList == k.toList) = true := by simp [he]
          have hek : xk = k := (ba_toList _ _).1 he
          have HE : Hid (r.dues[j].1 = k.data.toList) := bk_eq_iff.1 (HXK.out.symm.trans hek)
          by_cases hlt2 : xt < dt
          · have hd2 : decide (xt < dt) = true := decide_eq_true hlt2
            have HL : Hid (xt < dt) := hlt2
            subst hek
            clear he hlt2
            go_wp2_with fail
            go_quiet (fail)
            go_wp2
            go_roundw
            case rel =>
              refine ⟨j + 1, by omega, by simp, ?_, ?_, ?_, ?_⟩
              · rw [others_snoc _ _ j hjl, if_pos HE.out, List.append_nil]
                exact own_keep (hrow.kept (row := none) ⟨rfl, rfl, rfl, Nat.le_refl _, fun _ _ _ => rfl⟩ (by cases u9.ownBlock <;> simp)) (fun b e => by
                  have := (hrow.lt b e).1
                  exact (Below.heap_setCell _ _ _ _ (by show b ≠ w'.heap.size; omega)).trans (Below.heap_setCell _ _ _ _ (by show b ≠ w'.heap.size; omega)))
              · have hs := soonT_snoc xk.data.toList (ck + 1000) r.dues j hjl
                rw [← HXT.out, ← HDT.out, if_pos ⟨HE.out, HL.out⟩] at hs
                unfold Hid
                rw [hs]
                exact set_two HD.out
              · exact below_set (below_set (belowDN HB.out _) (Nat.le_refl _) _) (Nat.le_refl _) _
              · have := HZ.out
                unfold Hid
                simpa [World.setCell] using this
            case measure => simp [intOf]; omega
          · have hd2 : decide (xt < dt) = false := decide_eq_false hlt2
            have HL : Hid (¬ xt < dt) := hlt2
            subst hek
            clear he hlt2
            go_wp2_with fail
            go_quiet (fail)
            go_wp2
            go_roundw
            case rel =>
              refine ⟨j + 1, by omega, by simp, ?_, ?_, belowDN HB.out _, HZ⟩
              · rw [others_snoc _ _ j hjl, if_pos HE.out, List.append_nil]
                exact hrow
              · have hs := soonT_snoc xk.data.toList (ck + 1000) r.dues j hjl
                rw [← HXT.out, ← HDT.out, if_neg (fun h => by have h1 := h.2; have h2 := HL.out; omega), HDT.out] at hs
                unfold Hid
                rw [hs]
                exact HD.out
            case measure => simp [intOf]; omega
        · have hb : (xk.toList == k.toList) = false := by simp [he]
          have HE : Hid (¬ r.dues[j].1 = k.data.toList) := fun e => he (by rw [HXK.out, bk_eq_iff.2 e])
          clear he
          have hrow4 := hrow.alloc (.cells #[.string xk, .int .i64 xt] 119)
          have hone := one_two xk xt
          have h63 : (others k.data.toList (r.dues.take j)).length + 1 ≤ maxLen := by unfold maxLen; omega
          have hby : ((others k.data.toList (r.dues.take j)).length + 1) * 24 ≤ 140737488355328 := by omega
          have hbs : w'.heap.size + 1 ≤ (wr.alloc (.cells #[.string xk, .int .i64 xt] 119)).heap.size := by have := HZ.out; simp; omega
          go_wp2_with (first
            | (at_builtin; refine wpList_append_own _ rfl _ _ 115 rfl (w'.heap.size + 1) 119 i0 (.agg #[.string ⟨#[]⟩, .int .i64 0]) 2 24 Tryz.underlying115 hi z0 z1 z2 rfl (by decide) _ _ _ rfl hrow4 ⟨wr.heap.size, 0, none⟩ 1 1 [.string xk, .int .i64 xt] rfl rfl (cell_two_new _ _ _ _) hone h63 hby hbs ?_; intro v' w3 hown' hg3 hnil3; go_frame)
            | go_in)
          go_roundw
          case rel =>
            refine ⟨j + 1, by omega, by simp, ?_, ?_, ?_, ?_⟩
            · rw [others_snoc _ _ j hjl, if_neg HE.out, flatD_snoc, List.length_append, show encD r.dues[j] = [Value.string xk, .int .i64 xt] by rw [encD, enc_bk, ← HXK.out, ← HXT.out]]
              exact hown'
            · have hs := soonT_snoc k.data.toList (ck + 1000) r.dues j hjl
              rw [if_neg (fun h => HE.out h.1)] at hs
              unfold Hid
              rw [hs]
              refine (hg3.block _ (by have := HZ.out; simp; omega) (fun e => ?_)).trans ((Below.heap_alloc _ _ _ (by have := HZ.out; omega)).trans HD.out)
              have := (hrow4.lt _ e.symm).1
              omega
            · exact (belowAl HB.out _).grown hg3 (belowAl HB.out _).size (fun b e => by have := (hrow4.lt b e).1; omega)
            · have h1' := HZ.out
              have h2' := hg3.size
              unfold Hid
              simp only [World.size_alloc] at h2'
              omega
          case measure => simp [intOf]; omega
      · have hjn : ¬ ((j : Int) < (r.dues.length : Int)) := by omega
        have hje : j = r.dues.length := by omega
        have HRow : Hid (wr.ownsRow (w'.heap.size + 1) 119 2 u9 (others k.data.toList r.dues).length (flatD (others k.data.toList r.dues))) := by
          rw [hje, List.take_length] at hrow
          exact hrow
        have HDT2 : Hid (dt = soonT k.data.toList (ck + 1000) r.dues) := by
          have := HDT.out
          rw [hje, List.take_length] at this
          exact this
        have hol2 : (others k.data.toList r.dues).length ≤ 1999999999999 := by have := others_len k.data.toList r.dues; omega
        have hrow4 := HRow.out.alloc (.cells #[.string k, .int .i64 dt] 119)
        have hone := one_two k dt
        have h63 : (others k.data.toList r.dues).length + 1 ≤ maxLen := by unfold maxLen; omega
        have hby : ((others k.data.toList r.dues).length + 1) * 24 ≤ 140737488355328 := by omega
        have hbs : w'.heap.size + 1 ≤ (wr.alloc (.cells #[.string k, .int .i64 dt] 119)).heap.size := by have := HZ.out; simp; omega
        clear hje hrow hol HAD
        go_wp2_with (first
          | (at_builtin; refine wpList_append_lies _ rfl _ _ 115 rfl (w'.heap.size + 1) 119 i0 (.agg #[.string ⟨#[]⟩, .int .i64 0]) 2 24 Tryz.underlying115 hi z0 z1 z2 rfl (by decide) u9 _ _ rfl hrow4 ⟨wr.heap.size, 0, none⟩ 1 1 [.string k, .int .i64 dt] rfl rfl (cell_two_new _ _ _ _) hone (by decide) h63 hby hbs _ rfl ?_; intro g2 cap' w3 hown hgrow hat hglt; have hb3 : Below w'.heap.size w' w3 := (belowAl HB.out _).grown hgrow (belowAl HB.out _).size (fun b e => by have := (hrow4.lt b e).1; omega); have c4' := (H.out.below hb3).q4; have f4' := (H.out.below hb3).fz; have HOW : Hid (w3.ownsRow (w'.heap.size + 1) 119 2 (.slice (some ⟨g2, 0, none⟩) ((others k.data.toList r.dues).length + 1) cap') ((others k.data.toList r.dues).length + 1) (flatD (others k.data.toList r.dues) ++ [.string k, .int .i64 dt])) := hown; have HB3 : Hid (Below w'.heap.size w' w3) := hb3; clear hown hgrow hat hglt hb3; go_frame)
          | go_in)
        go_ret
        have hrow5 : w3.ownsRow (w'.heap.size + 1) 119 2 (.slice (some ⟨g2, 0, none⟩) ((others k.data.toList r.dues).length + 1) cap') (others k.data.toList r.dues ++ [(k.data.toList, soonT k.data.toList (r.ck + min t 1000) r.dues)]).length (flatD (others k.data.toList r.dues ++ [(k.data.toList, soonT k.data.toList (r.ck + min t 1000) r.dues)])) := by
          rw [flatD_snoc, List.length_append, show encD (k.data.toList, soonT k.data.toList (r.ck + min t 1000) r.dues) = [Value.string k, .int .i64 dt] by rw [encD, enc_bk, bk_data, HM.out, HCK.out, HDT2.out]]
          exact HOW.out
        exact ⟨rfl, ⟨_, _, _, _, _, H.out.set4 (grown_below HB3.out _) (own_mono hrow5 (Nat.zero_le _)) (fun b e => Or.inr (by have := (hrow5.lt b e).1; omega)) HC.out⟩, (KeptC.of_below HB3.out rfl).set (a := ⟨rb, 4, none⟩) H.out.c0 _⟩
  · have hg : decide (t > 1000) = false := decide_eq_false (by omega)
    have HM : Hid (min t 1000 = t) := by unfold Hid; omega
    have hl0 : r.dues.length ≤ 1999999999999 := hl4
    go_enter Tryz.func70, Tryz.ntmps70
    go_wp2_with fail
    refine (h92 _).mono ?_
    rintro e w' ⟨rfl, rfl⟩
    go_wp2
    have HD0 : Hid ((w'.alloc (.cells #[.string k, .int .i64 (ck + t)] 119)).heap[w'.heap.size]? = some (.cells #[.string k, .int .i64 (ck + t)] 119 (0, 0))) := (MapKept.heap_alloc _ _).1
    have HB0 : Hid (Below w'.heap.size w' (w'.alloc (.cells #[.string k, .int .i64 (ck + t)] 119))) := belowAl (Below.refl _ _) _
    have HZ0 : Hid (w'.heap.size + 1 ≤ (w'.alloc (.cells #[.string k, .int .i64 (ck + t)] 119)).heap.size) := by unfold Hid; simp
    generalize w'.alloc (.cells #[.string k, .int .i64 (ck + t)] 119) = W0 at *
    go_loopw [10, 9] (fun i vo wr => ∃ j : Nat, j ≤ r.dues.length ∧ i = .int .i64 j ∧ wr.ownsRow (w'.heap.size + 1) 119 2 vo (others k.data.toList (r.dues.take j)).length (flatD (others k.data.toList (r.dues.take j))) ∧ Hid (wr.heap[w'.heap.size]? = some (.cells #[.string k, .int .i64 (soonT k.data.toList (ck + t) (r.dues.take j))] 119 (0, 0))) ∧ Hid (Below w'.heap.size w' wr) ∧ Hid (w'.heap.size + 1 ≤ wr.heap.size)) (fun i _ _ => r.dues.length - (intOf i).toNat)
    case atStart => exact ⟨0, Nat.zero_le _, rfl, ⟨rfl, Or.inl ⟨rfl, rfl⟩⟩, HD0, HB0, HZ0⟩
    case round =>
      obtain ⟨j, hj, rfl, hrow, HD, HB, HZ⟩ := hrel
      clear HD0 HB0 HZ0
      have q4 : wr.cell? ⟨rb, 4, none⟩ = some (.slice ad r.dues.length cap) := (HB.out.cell (p := ⟨rb, 4, none⟩) hlt).trans HQ4.out
      obtain ⟨d0, d1, df⟩ := two_cells HD.out
      obtain ⟨dt, hdt⟩ : ∃ dt, dt = soonT k.data.toList (ck + t) (r.dues.take j) := ⟨_, rfl⟩
      rw [← hdt] at d1
      have HDT : Hid (dt = soonT k.data.toList (ck + t) (r.dues.take j)) := hdt
      clear hdt
      have hol := others_len k.data.toList (r.dues.take j)
      rw [List.length_take] at hol
      have hrlt : rb < wr.heap.size := by have := HB.out.size; omega
      by_cases hjl : j < r.dues.length
      · obtain ⟨g, hg', hgl, hcc⟩ := HAD.out (by omega)
        subst hg'
        obtain ⟨hk0, hk1⟩ := hcc j hjl
        have hx0 := (HB.out.cell (p := ⟨g, j * 2, none⟩) hgl).trans hk0
        have hx1 := (HB.out.cell (p := ⟨g, j * 2 + 1, none⟩) hgl).trans hk1
        obtain ⟨xk, hxk⟩ : ∃ xk, xk = bk r.dues[j].1 := ⟨_, rfl⟩
        obtain ⟨xt, hxt⟩ : ∃ xt, xt = r.dues[j].2 := ⟨_, rfl⟩
        rw [← hxk] at hx0
        rw [← hxt] at hx1
        have HXK : Hid (xk = bk r.dues[j].1) := hxk
        have HXT : Hid (xt = r.dues[j].2) := hxt
        have hjlt : ((j : Int) < (r.dues.length : Int)) := by omega
        clear hxk hxt hk0 hk1 hcc HAD HQ4
        by_cases he : xk.toList = k.toList
        · have hb : (xk.toList == k.toList) = true := by simp [he]
          have hek : xk = k := (ba_toList _ _).1 he
          have HE : Hid (r.dues[j].1 = k.data.toList) := bk_eq_iff.1 (HXK.out.symm.trans hek)
          by_cases hlt2 : xt < dt
          · have hd2 : decide (xt < dt) = true := decide_eq_true hlt2
            have HL : Hid (xt < dt) := hlt2
            subst hek
            clear he hlt2
            go_wp2_with fail
            go_quiet (fail)
            go_wp2
            go_roundw
            case rel =>
              refine ⟨j + 1, by omega, by simp, ?_, ?_, ?_, ?_⟩
              · rw [others_snoc _ _ j hjl, if_pos HE.out, List.append_nil]
                exact own_keep (hrow.kept (row := none) ⟨rfl, rfl, rfl, Nat.le_refl _, fun _ _ _ => rfl⟩ (by cases u9.ownBlock <;> simp)) (fun b e => by
                  have := (hrow.lt b e).1
                  exact (Below.heap_setCell _ _ _ _ (by show b ≠ w'.heap.size; omega)).trans (Below.heap_setCell _ _ _ _ (by show b ≠ w'.heap.size; omega)))
              · have hs := soonT_snoc xk.data.toList (ck + t) r.dues j hjl
                rw [← HXT.out, ← HDT.out, if_pos ⟨HE.out, HL.out⟩] at hs
                unfold Hid
                rw [hs]
                exact set_two HD.out
              · exact below_set (below_set (belowDN HB.out _) (Nat.le_refl _) _) (Nat.le_refl _) _
              · have := HZ.out
                unfold Hid
                simpa [World.setCell] using this
            case measure => simp [intOf]; omega
          · have hd2 : decide (xt < dt) = false := decide_eq_false hlt2
            have HL : Hid (¬ xt < dt) := hlt2
            subst hek
            clear he hlt2
            go_wp2_with fail
            go_quiet (fail)
            go_wp2
            go_roundw
            case rel =>
              refine ⟨j + 1, by omega, by simp, ?_, ?_, belowDN HB.out _, HZ⟩
              · rw [others_snoc _ _ j hjl, if_pos HE.out, List.append_nil]
                exact hrow
              · have hs := soonT_snoc xk.data.toList (ck + t) r.dues j hjl
                rw [← HXT.out, ← HDT.out, if_neg (fun h => by have h1 := h.2; have h2 := HL.out; omega), HDT.out] at hs
                unfold Hid
                rw [hs]
                exact HD.out
            case measure => simp [intOf]; omega
        · have hb : (xk.toList == k.toList) = false := by simp [he]
          have HE : Hid (¬ r.dues[j].1 = k.data.toList) := fun e => he (by rw [HXK.out, bk_eq_iff.2 e])
          clear he
          have hrow4 := hrow.alloc (.cells #[.string xk, .int .i64 xt] 119)
          have hone := one_two xk xt
          have h63 : (others k.data.toList (r.dues.take j)).length + 1 ≤ maxLen := by unfold maxLen; omega
          have hby : ((others k.data.toList (r.dues.take j)).length + 1) * 24 ≤ 140737488355328 := by omega
          have hbs : w'.heap.size + 1 ≤ (wr.alloc (.cells #[.string xk, .int .i64 xt] 119)).heap.size := by have := HZ.out; simp; omega
          go_wp2_with (first
            | (at_builtin; refine wpList_append_own _ rfl _ _ 115 rfl (w'.heap.size + 1) 119 i0 (.agg #[.string ⟨#[]⟩, .int .i64 0]) 2 24 Tryz.underlying115 hi z0 z1 z2 rfl (by decide) _ _ _ rfl hrow4 ⟨wr.heap.size, 0, none⟩ 1 1 [.string xk, .int .i64 xt] rfl rfl (cell_two_new _ _ _ _) hone h63 hby hbs ?_; intro v' w3 hown' hg3 hnil3; go_frame)
            | go_in)
          go_roundw
          case rel =>
            refine ⟨j + 1, by omega, by simp, ?_, ?_, ?_, ?_⟩
            · rw [others_snoc _ _ j hjl, if_neg HE.out, flatD_snoc, List.length_append, show encD r.dues[j] = [Value.string xk, .int .i64 xt] by rw [encD, enc_bk, ← HXK.out, ← HXT.out]]
              exact hown'
            · have hs := soonT_snoc k.data.toList (ck + t) r.dues j hjl
              rw [if_neg (fun h => HE.out h.1)] at hs
              unfold Hid
              rw [hs]
              refine (hg3.block _ (by have := HZ.out; simp; omega) (fun e => ?_)).trans ((Below.heap_alloc _ _ _ (by have := HZ.out; omega)).trans HD.out)
              have := (hrow4.lt _ e.symm).1
              omega
            · exact (belowAl HB.out _).grown hg3 (belowAl HB.out _).size (fun b e => by have := (hrow4.lt b e).1; omega)
            · have h1' := HZ.out
              have h2' := hg3.size
              unfold Hid
              simp only [World.size_alloc] at h2'
              omega
          case measure => simp [intOf]; omega
      · have hjn : ¬ ((j : Int) < (r.dues.length : Int)) := by omega
        have hje : j = r.dues.length := by omega
        have HRow : Hid (wr.ownsRow (w'.heap.size + 1) 119 2 u9 (others k.data.toList r.dues).length (flatD (others k.data.toList r.dues))) := by
          rw [hje, List.take_length] at hrow
          exact hrow
        have HDT2 : Hid (dt = soonT k.data.toList (ck + t) r.dues) := by
          have := HDT.out
          rw [hje, List.take_length] at this
          exact this
        have hol2 : (others k.data.toList r.dues).length ≤ 1999999999999 := by have := others_len k.data.toList r.dues; omega
        have hrow4 := HRow.out.alloc (.cells #[.string k, .int .i64 dt] 119)
        have hone := one_two k dt
        have h63 : (others k.data.toList r.dues).length + 1 ≤ maxLen := by unfold maxLen; omega
        have hby : ((others k.data.toList r.dues).length + 1) * 24 ≤ 140737488355328 := by omega
        have hbs : w'.heap.size + 1 ≤ (wr.alloc (.cells #[.string k, .int .i64 dt] 119)).heap.size := by have := HZ.out; simp; omega
        clear hje hrow hol HAD
        go_wp2_with (first
          | (at_builtin; refine wpList_append_lies _ rfl _ _ 115 rfl (w'.heap.size + 1) 119 i0 (.agg #[.string ⟨#[]⟩, .int .i64 0]) 2 24 Tryz.underlying115 hi z0 z1 z2 rfl (by decide) u9 _ _ rfl hrow4 ⟨wr.heap.size, 0, none⟩ 1 1 [.string k, .int .i64 dt] rfl rfl (cell_two_new _ _ _ _) hone (by decide) h63 hby hbs _ rfl ?_; intro g2 cap' w3 hown hgrow hat hglt; have hb3 : Below w'.heap.size w' w3 := (belowAl HB.out _).grown hgrow (belowAl HB.out _).size (fun b e => by have := (hrow4.lt b e).1; omega); have c4' := (H.out.below hb3).q4; have f4' := (H.out.below hb3).fz; have HOW : Hid (w3.ownsRow (w'.heap.size + 1) 119 2 (.slice (some ⟨g2, 0, none⟩) ((others k.data.toList r.dues).length + 1) cap') ((others k.data.toList r.dues).length + 1) (flatD (others k.data.toList r.dues) ++ [.string k, .int .i64 dt])) := hown; have HB3 : Hid (Below w'.heap.size w' w3) := hb3; clear hown hgrow hat hglt hb3; go_frame)
          | go_in)
        go_ret
        have hrow5 : w3.ownsRow (w'.heap.size + 1) 119 2 (.slice (some ⟨g2, 0, none⟩) ((others k.data.toList r.dues).length + 1) cap') (others k.data.toList r.dues ++ [(k.data.toList, soonT k.data.toList (r.ck + min t 1000) r.dues)]).length (flatD (others k.data.toList r.dues ++ [(k.data.toList, soonT k.data.toList (r.ck + min t 1000) r.dues)])) := by
          rw [flatD_snoc, List.length_append, show encD (k.data.toList, soonT k.data.toList (r.ck + min t 1000) r.dues) = [Value.string k, .int .i64 dt] by rw [encD, enc_bk, bk_data, HM.out, HCK.out, HDT2.out]]
          exact HOW.out
        exact ⟨rfl, ⟨_, _, _, _, _, H.out.set4 (grown_below HB3.out _) (own_mono hrow5 (Nat.zero_le _)) (fun b e => Or.inr (by have := (hrow5.lt b e).1; omega)) HC.out⟩, (KeptC.of_below HB3.out rfl).set (a := ⟨rb, 4, none⟩) H.out.c0 _⟩
end

end Go.Proofs.YtdgfjneapialdaaGreatDoor
