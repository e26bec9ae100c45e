import Derived.Test.YtdgfjneapialdaaGreatDoorPs
namespace Go.Proofs.YtdgfjneapialdaaGreatDoor
open Go Go.RowKit Go.Maps Go.Lib Go.Sort

def wArr (q bw bd : Value) : Array Value := #[.slice none 0 0, q, .slice none 0 0, .slice none 0 0, .slice none 0 0, bw, bd, .slice none 0 0, .slice none 0 0]
/-- The script's world in memory: its queues, and what its book keeps of words and of what is due. -/
structure IsW (w : World) (wb : Nat) (q bw bd : Value) (ws ds : List Value) : Prop where
  blk : w.heap[wb]? = some (.cells (wArr q bw bd) 81 (0, 0))
  ow : w.ownsRow 0 114 1 bw ws.length ws
  od : w.ownsRow 0 115 1 bd ds.length ds
/-- A list that the book has marked with s. -/
def KW (w : World) (B : Nat) (s : ByteArray) (x : Value) : Prop := ∃ n, n ≤ 2000000000000 ∧ w.ownsRow B 9 1 x n (List.replicate n (.string s))

section
variable {w w' : World} {wb : Nat} {q bw bd : Value} {ws ds : List Value}
theorem IsW.lt (h : IsW w wb q bw bd ws ds) : wb < w.heap.size := (Array.getElem?_eq_some_iff.1 h.blk).1
theorem IsW.p1 (h : IsW w wb q bw bd ws ds) : w.cell? ⟨wb, 1, none⟩ = some q := by simp [World.cell?, h.blk, wArr]
theorem IsW.p5 (h : IsW w wb q bw bd ws ds) : w.cell? ⟨wb, 5, none⟩ = some bw := by simp [World.cell?, h.blk, wArr]
theorem IsW.p6 (h : IsW w wb q bw bd ws ds) : w.cell? ⟨wb, 6, none⟩ = some bd := by simp [World.cell?, h.blk, wArr]
theorem IsW.fz (h : IsW w wb q bw bd ws ds) : ∀ o, w.frozen? ⟨wb, o, none⟩ = false := fun o => by simp [World.frozen?, h.blk]
theorem IsW.keep (h : IsW w wb q bw bd ws ds) (h0 : w'.heap[wb]? = w.heap[wb]?) (h1 : ∀ k, bw.ownBlock = some k → w'.heap[k]? = w.heap[k]?) (h2 : ∀ k, bd.ownBlock = some k → w'.heap[k]? = w.heap[k]?) : IsW w' wb q bw bd ws ds :=
  ⟨h0.trans h.blk, own_keep h.ow h1, own_keep h.od h2⟩
theorem IsW.below (h : IsW w wb q bw bd ws ds) (k : Below w.heap.size w w') : IsW w' wb q bw bd ws ds :=
  h.keep (k.block _ h.lt) (fun i e => k.block i (own_lt h.ow e)) (fun i e => k.block i (own_lt h.od e))
theorem IsW.ne5 (h : IsW w wb q bw bd ws ds) : bw.ownBlock ≠ some wb := fun e => by
  obtain ⟨cur, hc⟩ := own_typ h.ow wb e
  exact ne_typ h.blk hc (by decide) rfl
theorem IsW.ne6 (h : IsW w wb q bw bd ws ds) : bd.ownBlock ≠ some wb := fun e => by
  obtain ⟨cur, hc⟩ := own_typ h.od wb e
  exact ne_typ h.blk hc (by decide) rfl
theorem IsW.ne56 (h : IsW w wb q bw bd ws ds) : ∀ k, bw.ownBlock = some k → bd.ownBlock ≠ some k := fun k e e' => by
  obtain ⟨cur, hc⟩ := own_typ h.ow k e
  obtain ⟨cur', hc'⟩ := own_typ h.od k e'
  exact ne_typ hc hc' (by decide) rfl
/-- The words' list has grown, and is laid into its field. -/
theorem IsW.set5 (h : IsW w wb q bw bd ws ds) (k : w.grownBy w' bw.ownBlock) {v' : Value} {l : List Value} (hr : w'.ownsRow 0 114 1 v' l.length l) : IsW (w'.setCell ⟨wb, 5, none⟩ v') wb q v' bd l ds := by
  have e0 : w'.heap[wb]? = some (.cells (wArr q bw bd) 81 (0, 0)) := (k.block _ h.lt (fun e => h.ne5 e.symm)).trans h.blk
  have hd : w'.ownsRow 0 115 1 bd ds.length ds := own_keep h.od (fun i e => k.block i (own_lt h.od e) (fun e' => h.ne56 i e'.symm e))
  have nb : ∀ {v : Value} {e : TypeId} {size n : Nat} {xs : List Value}, w'.ownsRow 0 e size v n xs → e ≠ 81 → (w'.setCell ⟨wb, 5, none⟩ v').ownsRow 0 e size v n xs := by
    intro v e size n xs ho hne
    refine own_keep ho (fun k hk => Below.heap_setCell _ _ _ _ ?_)
    obtain ⟨cur, hc⟩ := own_typ ho k hk
    exact ne_typ hc e0 hne
  exact ⟨by rw [heap_setCell_at e0]; simp [wArr], nb hr (by decide), nb hd (by decide)⟩
/-- The same of what is due. -/
theorem IsW.set6 (h : IsW w wb q bw bd ws ds) (k : w.grownBy w' bd.ownBlock) {v' : Value} {l : List Value} (hr : w'.ownsRow 0 115 1 v' l.length l) : IsW (w'.setCell ⟨wb, 6, none⟩ v') wb q bw v' ws l := by
  have e0 : w'.heap[wb]? = some (.cells (wArr q bw bd) 81 (0, 0)) := (k.block _ h.lt (fun e => h.ne6 e.symm)).trans h.blk
  have hd : w'.ownsRow 0 114 1 bw ws.length ws := own_keep h.ow (fun i e => k.block i (own_lt h.ow e) (fun e' => h.ne56 i e e'.symm))
  have nb : ∀ {v : Value} {e : TypeId} {size n : Nat} {xs : List Value}, w'.ownsRow 0 e size v n xs → e ≠ 81 → (w'.setCell ⟨wb, 6, none⟩ v').ownsRow 0 e size v n xs := by
    intro v e size n xs ho hne
    refine own_keep ho (fun k hk => Below.heap_setCell _ _ _ _ ?_)
    obtain ⟨cur, hc⟩ := own_typ ho k hk
    exact ne_typ hc e0 hne
  exact ⟨by rw [heap_setCell_at e0]; simp [wArr], nb hd (by decide), nb hr (by decide)⟩
end

theorem info70 : (Tryz.prog.info? 114).map (fun i => (i.zero, i.size, i.bytes)) = some (some (.slice none 0 0), 1, 24) := by kernel_rfl

section
variable {w w' : World} {wb : Nat} {q bw bd : Value} {ws ds : List Value}
/-- A row of another type than the words' list and the world. -/
theorem IsW.row5 (h : IsW w wb q bw bd ws ds) (k : w.grownBy w' bw.ownBlock) (v' : Value) {b : Nat} {e : TypeId} {size n : Nat} {x : Value} {ys : List Value} (he : e ≠ 114) (he2 : e ≠ 81) (ho : w.ownsRow b e size x n ys) : (w'.setCell ⟨wb, 5, none⟩ v').ownsRow b e size x n ys := by
  refine own_keep ho (fun i hi => ?_)
  obtain ⟨cur, hc⟩ := own_typ ho i hi
  have hne : bw.ownBlock ≠ some i := fun e' => by
    obtain ⟨cur', hc'⟩ := own_typ h.ow i e'
    exact ne_typ hc hc' he rfl
  rw [Below.heap_setCell _ _ _ _ (ne_typ hc h.blk he2), k.block i (own_lt ho hi) (fun e' => hne e'.symm)]
/-- A row of texts may be written to. -/
theorem IsW.row9 (h : IsW w wb q bw bd ws ds) {b n : Nat} {x : Value} {ys : List Value} (ho : w.ownsRow b 9 1 x n ys) (k : w.grownBy w' x.ownBlock) : IsW w' wb q bw bd ws ds := by
  have t : ∀ {i : Nat} {e : TypeId} {cur : Array Value}, w.heap[i]? = some (.cells cur e (0, 0)) → e ≠ 9 → w'.heap[i]? = w.heap[i]? := by
    intro i e cur hc he
    refine k.block i (Array.getElem?_eq_some_iff.1 hc).1 (fun e' => ?_)
    obtain ⟨cur', hc'⟩ := own_typ ho i e'.symm
    exact ne_typ hc hc' he rfl
  exact h.keep (t h.blk (by decide)) (fun i e => (own_typ h.ow i e).elim fun cur hc => t hc (by decide)) (fun i e => (own_typ h.od i e).elim fun cur hc => t hc (by decide))
theorem grown_set {w : World} {g : Nat} (o : Nat) (u : Value) : w.grownBy (w.setCell ⟨g, o, none⟩ u) (some g) :=
  ⟨rfl, rfl, rfl, by simp [World.setCell], fun k _ hk => Below.heap_setCell _ _ _ _ (fun e => hk (by rw [e]))⟩
end

theorem own_frozen {w : World} {base g n cap : Nat} {e : TypeId} {size : Nat} {xs : List Value} (h : w.ownsRow base e size (.slice (some ⟨g, 0, none⟩) n cap) n xs) (o : Nat) : w.frozen? ⟨g, o, none⟩ = false := by
  obtain ⟨cur, hc⟩ := own_typ h g rfl
  simp [World.frozen?, hc]

theorem rep_set (xs : List Value) (s : Value) (k : Nat) (hk : k < xs.length) : (List.replicate k s ++ xs.drop k).set k s = List.replicate (k + 1) s ++ xs.drop (k + 1) := by
  rw [List.set_append_right _ _ (by simp), List.length_replicate, Nat.sub_self, List.drop_eq_getElem_cons hk, List.set_cons_zero, List.replicate_succ', List.append_assoc, List.singleton_append]
theorem rep_get (xs : List Value) (s : Value) (k : Nat) (hk : k < xs.length) : (List.replicate k s ++ xs.drop k)[k]? = some xs[k] := by
  rw [List.getElem?_append_right (by simp)]
  simp [hk]
/-- What the book's word may turn: the world, the words' list, the list that is marked. -/
def Aside (w : World) (wb : Nat) (a b : Option Nat) (k : Nat) : Prop := k < w.heap.size ∧ k ≠ wb ∧ a ≠ some k ∧ b ≠ some k

set_option maxRecDepth 100000 in
set_option maxHeartbeats 1000000 in
theorem word_any {w : World} {wb : Nat} {q bw bd : Value} {ws ds : List Value} {m : Nat} (h : IsW w wb q bw bd ws ds) (hm : ws.length = 4 * m) (hm2 : m ≤ 1000000000000) (hT : Tab w) {B : Nat} {v : Value} {xs : List Value} (hr : w.ownsRow B 9 1 v xs.length xs) (hB : B ≤ w.heap.size) (hx : xs.length ≤ 1000000000000) :
    Calls Tryz.prog 142 #[.pointer (some ⟨wb, 3, none⟩), v] w fun e w' => e = .returned (.tuple #[]) ∧ ∃ bw' ns, IsW w' wb q bw' bd (ws ++ ns) ds ∧ ns.length = 4 ∧ (∀ x ∈ ns, KW w' B (numW (9000 + m)) x) ∧ (bw'.ownBlock = bw.ownBlock ∨ ∀ k, bw'.ownBlock = some k → w.heap.size ≤ k) ∧ KeptC (Aside w wb bw.ownBlock v.ownBlock) w w' := by
  have p5 := h.p5
  have hlt := h.lt
  have H : Hid (IsW w wb q bw bd ws ds) := h
  obtain ⟨ao5, cap5, e5⟩ := own_form h.ow
  obtain ⟨ad, cap, e1⟩ := own_form hr
  have hsh : ∀ g, ad = some g → ∃ gb, ad = some ⟨gb, 0, none⟩ := by
    subst e1
    rcases hr.2 with ⟨h1, _⟩ | ⟨g, cap', cur, h1, _⟩
    · injection h1 with a; intro g hg; rw [a] at hg; cases hg
    · injection h1 with a; intro _ _; exact ⟨g, a⟩
  obtain ⟨hbw, hv⟩ : (∃ x, x = bw.ownBlock) ∧ (∃ x, x = v.ownBlock) := ⟨⟨_, rfl⟩, ⟨_, rfl⟩⟩
  obtain ⟨obw, hobw⟩ := hbw
  obtain ⟨ov, hov⟩ := hv
  have HOB : Hid (obw = bw.ownBlock) := hobw
  have HOV : Hid (ov = v.ownBlock) := hov
  rw [← hobw, ← hov]
  clear hobw hov
  have hdv : ((ws.length : Int)).tdiv 4 = (m : Int) := by rw [Int.tdiv_eq_ediv_of_nonneg (by omega), hm]; omega
  have HM : Hid (ws.length = 4 * m) := hm
  have hcall := itoa_any (9000 + m) (by omega) (by omega) w hT
  have HR : Hid (w.ownsRow B 9 1 v xs.length xs) := hr
  have HSH : Hid (∀ g, ad = some g → ∃ gb, ad = some ⟨gb, 0, none⟩) := hsh
  have HB : Hid (B ≤ w.heap.size) := hB
  subst e5 e1
  clear h hm hr hsh hB hT
  go_enter Tryz.func142, Tryz.ntmps142
  go_wp2_with fail
  refine hcall.mono ?_
  rintro e w1 ⟨rfl, hb1⟩
  clear hcall
  obtain ⟨s, hs⟩ : ∃ s, s = numW (9000 + m) := ⟨_, rfl⟩
  rw [← hs]
  have HS : Hid (s = numW (9000 + m)) := hs
  have HB1 : Hid (Below w.heap.size w w1) := hb1
  clear hs hb1 hdv p5
  go_wp2
  go_loopw [6] (fun i wr => ∃ k : Nat, k ≤ xs.length ∧ i = .int .i64 k ∧ Hid (wr.ownsRow B 9 1 (.slice ad xs.length cap) xs.length (List.replicate k (.string s) ++ xs.drop k)) ∧ Hid (IsW wr wb q (.slice ao5 ws.length cap5) bd ws ds) ∧ Hid (KeptC (Aside w wb obw ov) w wr)) (fun i _ => xs.length - (intOf i).toNat)
  case atStart =>
    refine ⟨0, Nat.zero_le _, rfl, ?_, H.out.below HB1.out, KeptC.of_below HB1.out rfl⟩
    exact own_keep HR.out (fun k e => HB1.out.block k (own_lt HR.out e))
  case round =>
    obtain ⟨k, hk, rfl, HRo, HW, HK⟩ := hrel
    by_cases hkl : k < xs.length
    · have hg : ∃ g, ad = some ⟨g, 0, none⟩ := by
        rcases HR.out.2 with ⟨_, h2⟩ | ⟨g, cap', cur, h1, _⟩
        · omega
        · injection h1 with a; exact ⟨g, a⟩
      obtain ⟨g, rfl⟩ := hg
      have hcx : wr.cell? ⟨g, k, none⟩ = some xs[k] := by
        have := HRo.out.cells (g := g) rfl k _ (rep_get xs _ k hkl)
        rwa [Addr.add_lit, Nat.zero_add] at this
      obtain ⟨y, hy⟩ : ∃ y, y = xs[k] := ⟨_, rfl⟩
      rw [← hy] at hcx
      have hfz := own_frozen HRo.out k
      clear hy
      have hki : ((k : Int) < (xs.length : Int)) := by omega
      go_wp2
      go_roundw
      case rel =>
        refine ⟨k + 1, by omega, by simp, ?_, HW.out.row9 HRo.out (grown_set _ _), HK.out.set (a := ⟨g, k, none⟩) (fun hA => hA.2.2.2 HOV.out) _⟩
        have := own_set HRo.out k (.string s)
        rw [rep_set xs _ k hkl] at this
        exact this
      case measure => simp [intOf]; omega
    · have hkn : k = xs.length := by omega
      subst hkn
      have hki : ¬ ((xs.length : Int) < (xs.length : Int)) := by omega
      have HRo2 : Hid (wr.ownsRow B 9 1 (.slice ad xs.length cap) xs.length (List.replicate xs.length (.string s))) := by
        have := HRo.out
        rw [List.drop_length, List.append_nil] at this
        exact this
      clear HRo
      go_wp2
      obtain ⟨i0, hi, z0, z1, z2⟩ := info_parts info70
      obtain ⟨i9, hi9, y0, y1, y2⟩ := info_parts info9
      go_loopw [1, 7] (fun vr i wr => ∃ (k : Nat) (bw' : Value) (ns : List Value), k ≤ 4 ∧ i = .int .i64 k ∧ Hid (wr.ownsRow B 9 1 vr (xs.length + k) (List.replicate (xs.length + k) (.string s))) ∧ Hid (IsW wr wb q bw' bd (ws ++ ns) ds) ∧ Hid (ns.length = k) ∧ Hid (∀ x ∈ ns, ∃ n, n ≤ xs.length + k ∧ wr.ownsRow B 9 1 x n (List.replicate n (.string s))) ∧ Hid (bw'.ownBlock = obw ∨ ∀ j, bw'.ownBlock = some j → w.heap.size ≤ j) ∧ Hid (vr.ownBlock = ov ∨ ∀ j, vr.ownBlock = some j → w.heap.size ≤ j) ∧ Hid (KeptC (Aside w wb obw ov) w wr)) (fun _ i _ => 4 - (intOf i).toNat)
      case atStart =>
        exact ⟨0, _, [], by omega, rfl, HRo2.out, by show IsW _ _ _ _ _ (ws ++ []) _; rw [List.append_nil]; exact HW.out, rfl, (fun x hx => by simp at hx), Or.inl HOB.out.symm, Or.inl HOV.out.symm, HK.out⟩
      case round =>
        clear HRo2 HW HK
        obtain ⟨k, bw', ns, hk4, rfl, HRo, HW, HN, HKs, HO5, HO1, HK⟩ := hrel
        by_cases hkl : k < 4
        · obtain ⟨L, hL⟩ : ∃ L, L = ws ++ ns := ⟨_, rfl⟩
          have HLL : Hid (L.length = ws.length + ns.length) := by show L.length = _; rw [hL, List.length_append]
          rw [← hL] at HW
          have HL : Hid (L = ws ++ ns) := hL
          clear hL
          obtain ⟨ao', cap', eb⟩ := own_form HW.out.ow
          obtain ⟨ad2, cap2, ev⟩ := own_form HRo.out
          subst eb ev
          have p5 := HW.out.p5
          have hltr := HW.out.lt
          have hki : ((k : Int) < 4) := by omega
          have hown1 := HW.out.ow.alloc (.cells #[.slice ad2 (xs.length + k) cap2] 114)
          have h63 : L.length + 1 ≤ maxLen := by have := HM.out; have := HN.out; have := HLL.out; unfold maxLen; omega
          have hby : (L.length + 1) * 24 ≤ 140737488355328 := by have := HM.out; have := HN.out; have := HLL.out; omega
          have hone : ∀ u ∈ [Value.slice ad2 (xs.length + k) cap2], u.oneCell' = true := by intro u hu; simp at hu; subst hu; rfl
          have hone2 : ∀ u ∈ [Value.string s], u.oneCell' = true := by intro u hu; simp at hu; subst hu; rfl
          have h63b : xs.length + k + 1 ≤ maxLen := by unfold maxLen; omega
          have hbyb : (xs.length + k + 1) * 16 ≤ 140737488355328 := by omega
          have HWA : Hid (IsW (wr.alloc (.cells #[.slice ad2 (xs.length + k) cap2] 114)) wb q (.slice ao' L.length cap') bd L ds) := HW.out.below ((Below.refl _ _).alloc (Nat.le_refl _) _)
          have HRA := HRo.out.alloc (.cells #[.slice ad2 (xs.length + k) cap2] 114)
          have HRA' : Hid ((wr.alloc (.cells #[.slice ad2 (xs.length + k) cap2] 114)).ownsRow B 9 1 (.slice ad2 (xs.length + k) cap2) (xs.length + k) (List.replicate (xs.length + k) (.string s))) := HRA
          clear HRA
          go_wp2_with (first
            | (at_builtin; refine wpList_append_keeps _ rfl _ _ 74 rfl 0 114 i0 (.slice none 0 0) 1 24 Tryz.underlying74 hi z0 z1 z2 rfl (by decide) _ _ _ rfl hown1 ⟨wr.heap.size, 0, none⟩ 1 1 [.slice ad2 (xs.length + k) cap2] rfl rfl (cell_one_new _ _ _) hone h63 hby (Nat.zero_le _) ?_; intro v' w3 hown' hg3 hat3 hkp3; obtain ⟨ao3, cap3, ev3⟩ := own_form hown'; subst ev3; have er : w3.heap[wb]? = some (.cells (wArr q (.slice ao' L.length cap') bd) 81 (0, 0)) := (hg3.block wb HWA.out.lt (fun e => HWA.out.ne5 e.symm)).trans HWA.out.blk; have c3 : w3.cell? ⟨wb, 5, none⟩ = some (.slice ao' L.length cap') := by simp [World.cell?, er, wArr]
               have f3 : w3.frozen? ⟨wb, 5, none⟩ = false := by simp [World.frozen?, er]
               have HG3 : Hid ((wr.alloc (.cells #[.slice ad2 (xs.length + k) cap2] 114)).grownBy w3 (Value.slice ao' L.length cap').ownBlock) := hg3
               have HAT3 : Hid ((Value.slice ao3 (L.length + 1) cap3).ownBlock = (Value.slice ao' L.length cap').ownBlock ∨ (Value.slice ao3 (L.length + 1) cap3).ownBlock = some (wr.alloc (.cells #[.slice ad2 (xs.length + k) cap2] 114)).heap.size) := hat3
               have HW4 : Hid (IsW (w3.setCell ⟨wb, 5, none⟩ (.slice ao3 (L.length + 1) cap3)) wb q (.slice ao3 (L.length + 1) cap3) bd (L ++ [.slice ad2 (xs.length + k) cap2]) ds) := HWA.out.set5 hg3 (by rw [List.length_append]; exact hown')
               have hown2 := (HWA.out.row5 hg3 (.slice ao3 (L.length + 1) cap3) (by decide) (by decide) HRA'.out).alloc (.cells #[.string s] 9)
               have hB4 : B ≤ ((w3.setCell ⟨wb, 5, none⟩ (.slice ao3 (L.length + 1) cap3)).alloc (.cells #[.string s] 9)).heap.size := by have h1 := HK.out.size; have h2 := hg3.size; have h3 := HB.out; simp [World.setCell] at h2 ⊢; omega
               have hcn := cell_one_new (w3.setCell ⟨wb, 5, none⟩ (.slice ao3 (L.length + 1) cap3)) (.string s) 9
               rw [show (w3.setCell ⟨wb, 5, none⟩ (.slice ao3 (L.length + 1) cap3)).heap.size = w3.heap.size by simp [World.setCell]] at hcn
               clear hown' hg3 hat3 hkp3 er hown1 hone
               go_frame)
            | (at_builtin; refine wpList_append_keeps _ rfl _ _ 114 rfl B 9 i9 (.string ⟨#[]⟩) 1 16 Tryz.underlying114 hi9 y0 y1 y2 rfl (by decide) _ _ _ rfl hown2 ⟨w3.heap.size, 0, none⟩ 1 1 [.string s] rfl rfl hcn hone2 h63b hbyb hB4 ?_; intro v4 w5 hown4 hg4 hat4 hkp4; go_frame)
            | go_in)
          go_roundw
          case rel =>
            refine ⟨k + 1, .slice ao3 (L.length + 1) cap3, ns ++ [.slice ad2 (xs.length + k) cap2], by omega, by simp, ?_, ?_, ?_, ?_, ?_, ?_, ?_⟩
            · have := hown4
              rw [← List.replicate_succ'] at this
              exact this
            · have := (HW4.out.below ((Below.refl _ _).alloc (Nat.le_refl _) (.cells #[.string s] 9))).row9 hown2 hg4
              show IsW w5 wb q _ bd (ws ++ (ns ++ _)) ds
              rw [← List.append_assoc, ← HL.out]
              exact this
            · show (ns ++ [_]).length = k + 1
              rw [List.length_append, HN.out]; rfl
            · intro x hx
              have old : ∀ {y : Value} {n : Nat}, n ≤ xs.length + k → wr.ownsRow B 9 1 y n (List.replicate n (.string s)) → w5.ownsRow B 9 1 y n (List.replicate n (.string s)) := by
                intro y n hn ho
                exact hkp4 _ _ _ _ ((HWA.out.row5 HG3.out _ (by decide) (by decide) (ho.alloc _)).alloc _) hn
              rcases List.mem_append.1 hx with hx | hx
              · obtain ⟨n, hn, ho⟩ := HKs.out x hx
                exact ⟨n, by omega, old hn ho⟩
              · simp at hx
                subst hx
                exact ⟨xs.length + k, by omega, old (Nat.le_refl _) HRo.out⟩
            · rcases HAT3.out with e | e
              · refine HO5.out.imp (fun e2 => e.trans e2) (fun h2 j hj => h2 j (e.symm.trans hj))
              · refine Or.inr (fun j hj => ?_)
                have h1 := HK.out.size
                rw [e] at hj
                simp at hj
                omega
            · have hsz : w.heap.size ≤ ((w3.setCell ⟨wb, 5, none⟩ (.slice ao3 (L.length + 1) cap3)).alloc (.cells #[.string s] 9)).heap.size := by
                have h1 := HK.out.size
                have h2 := HG3.out.size
                simp [World.setCell] at h2 ⊢
                omega
              rcases hat4 with e | e
              · refine HO1.out.imp (fun e2 => e.trans e2) (fun h2 j hj => h2 j (e.symm.trans hj))
              · refine Or.inr (fun j hj => ?_)
                rw [e] at hj
                cases hj
                exact hsz
            · have n5 : ∀ j, (Value.slice ao' L.length cap').ownBlock = some j → ¬ Aside w wb obw ov j := fun j hj hA => HO5.out.elim (fun e => hA.2.2.1 (e.symm.trans hj)) (fun h2 => by have := h2 j hj; have := hA.1; omega)
              have n1 : ∀ j, (Value.slice ad2 (xs.length + k) cap2).ownBlock = some j → ¬ Aside w wb obw ov j := fun j hj hA => HO1.out.elim (fun e => hA.2.2.2 (e.symm.trans hj)) (fun h2 => by have := h2 j hj; have := hA.1; omega)
              exact ((((HK.out.alloc _).grown HG3.out n5).set (a := ⟨wb, 5, none⟩) (fun hA => hA.2.1 rfl) _).alloc _).grown hg4 n1
          case measure => simp [intOf]; omega
        · have hk4e : k = 4 := by omega
          subst hk4e
          go_wp2
          go_end0
          refine ⟨rfl, bw', ns, HW.out, HN.out, fun x hx => ?_, HO5.out, HK.out⟩
          obtain ⟨n, hn, ho⟩ := HKs.out x hx
          rw [← HS.out]
          exact ⟨n, by omega, ho⟩

end Go.Proofs.YtdgfjneapialdaaGreatDoor
