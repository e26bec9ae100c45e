import Derived.Test.YtdgfjneapialdaaGreatDoorTn
namespace Go.Proofs.YtdgfjneapialdaaGreatDoor.S
open Go Go.RowKit Go.Maps

def ofKind (kk : Int) (l : List Ob) : List Ob := l.filter fun o => o.kind == kk
theorem ofKind_take (kk : Int) (l : List Ob) (k : Nat) (hk : k < l.length) : ofKind kk (l.take (k + 1)) = ofKind kk (l.take k) ++ (if l[k].kind == kk then [l[k]] else []) := by
  unfold ofKind
  rw [List.take_succ_eq_append_getElem hk, List.filter_append]
  simp [List.filter_cons]

section
variable {C : Nat → Prop} {w : World} {rb : Nat} {lim born : Int} {pv ev nv : Value} {sp sv : List Value} {pre past : List (List Ob)} {l : List Ob} {es : List (Int × Ob)}
set_option maxRecDepth 100000 in
set_option maxHeartbeats 1000000 in
theorem rlist_any (h : IsRef C w rb lim born pv ev sv past es) (hsv : sv = sp ++ [nv]) (hpa : past = pre ++ [l]) (hb : pre.length ≤ 600) (hl : l.length ≤ 1000) (hkd : ∀ x ∈ l, x.kind = 0 ∨ x.kind = 1) (kk : Int) :
    Calls Tryz.prog 54 #[.pointer (some ⟨rb, 0, none⟩), .int .u8 kk] w fun e w' => ∃ vv, e = .returned (.tuple #[vv, .int .i64 (pre.length : Int)]) ∧ w'.ownsRow w.heap.size 84 9 vv (ofKind kk (ordL l)).length (flatO (ofKind kk (ordL l))) ∧ Below w.heap.size w w' := by
  subst hsv hpa
  have hn := now_any h hb
  have HO : Hid (∀ m, Calls Tryz.prog 85 #[nv] (w.drewN m) fun e w' => ∃ v', e = .returned v' ∧ w'.ownsRow w.heap.size 84 9 v' (ordL l).length (flatO (ordL l)) ∧ Below w.heap.size w w') := by
    intro m
    refine (ordered_any (w.drewN m) 0 nv l (own_drewN h.row m) hl hkd).mono ?_
    rintro e w' ⟨v', h1, h2, h3⟩
    exact ⟨v', h1, h2, (belowDN (Below.refl _ w) m).trans h3⟩
  have HV : Hid (∀ W, Below w.heap.size w W → Calls Tryz.prog 86 #[.pointer (some ⟨rb, 0, none⟩)] W fun e w' => e = .returned (.int .i64 (pre.length : Int)) ∧ w' = W) := fun W hW => version_any (h.below hW) hb
  obtain ⟨ad, cp, env⟩ := own_form h.row
  obtain ⟨A, hA⟩ : ∃ A, A = ordL l := ⟨_, rfl⟩
  have hAl : A.length ≤ 1000 := by rw [hA, ordL_len]; exact hl
  rw [← hA] at HO
  rw [← hA]
  clear h hkd hA
  subst env
  go_enter Tryz.func54, Tryz.ntmps54
  go_wp2_with fail
  refine hn.mono ?_
  rintro e w1 ⟨rfl, n1, rfl⟩
  have ho := HO.out n1
  clear hn HO
  go_wp2_with fail
  refine ho.mono ?_
  rintro e w2 ⟨vA, rfl, hrow, hb2⟩
  obtain ⟨adA, cpA, rfl⟩ := own_form hrow
  have HR : Hid (w2.ownsRow w.heap.size 84 9 (.slice adA A.length cpA) A.length (flatO A)) := hrow
  have HB2 : Hid (Below w.heap.size w w2) := hb2
  clear ho hrow hb2
  go_wp2
  go_loopw [7, 8] (fun vr iv wr => ∃ i : Nat, i ≤ A.length ∧ iv = .int .i64 i ∧ Hid (wr.ownsRow w2.heap.size 84 9 vr (ofKind kk (A.take i)).length (flatO (ofKind kk (A.take i)))) ∧ Hid (Below w2.heap.size w2 wr)) (fun _ iv _ => A.length - (intOf iv).toNat)
  case atStart => exact ⟨0, Nat.zero_le _, rfl, World.ownsRow_nil _ _ _ _, Below.refl _ _⟩
  case round =>
    obtain ⟨i, hi, rfl, HRr, HBw⟩ := hrel
    obtain ⟨L, hL⟩ : ∃ L, L = ofKind kk (A.take i) := ⟨_, rfl⟩
    rw [← hL] at HRr
    have hLl : L.length ≤ 1000 := by
      rw [hL]
      have h1 := List.length_filter_le (fun o : Ob => o.kind == kk) (A.take i)
      have h2 : (A.take i).length ≤ A.length := by simp; omega
      unfold ofKind
      omega
    obtain ⟨adr, cpr, er⟩ := own_form HRr.out
    subst er
    by_cases hlt : i < A.length
    · obtain ⟨gA, rfl⟩ := row_g HR.out (by omega)
      have hc := row_cells HR.out HBw.out hlt
      obtain ⟨X, hX⟩ : ∃ X, X = A[i] := ⟨_, rfl⟩
      rw [← hX] at hc
      have HS : Hid (ofKind kk (A.take (i + 1)) = L ++ (if X.kind == kk then [X] else [])) := by show _ = _; rw [ofKind_take kk A i hlt, ← hX, ← hL]
      clear hX hL
      obtain ⟨x0, x1, x2, x3, x4, x5, x6, x7, x8⟩ := X
      have p0 : wr.cell? ⟨gA, i * 9, none⟩ = some (.int .u8 x0) := hc 0 _ (by omega) rfl
      have p1 : wr.cell? ⟨gA, i * 9 + 1, none⟩ = some (.string x1) := hc 1 _ (by omega) rfl
      have p2 : wr.cell? ⟨gA, i * 9 + 2, none⟩ = some (.int .i64 x2) := hc 2 _ (by omega) rfl
      have p3 : wr.cell? ⟨gA, i * 9 + 3, none⟩ = some (.int .i64 x3) := hc 3 _ (by omega) rfl
      have p4 : wr.cell? ⟨gA, i * 9 + 4, none⟩ = some (.int .i64 x4) := hc 4 _ (by omega) rfl
      have p5 : wr.cell? ⟨gA, i * 9 + 5, none⟩ = some (.int .i64 x5) := hc 5 _ (by omega) rfl
      have p6 : wr.cell? ⟨gA, i * 9 + 6, none⟩ = some (.int .i64 x6) := hc 6 _ (by omega) rfl
      have p7 : wr.cell? ⟨gA, i * 9 + 7, none⟩ = some (.int .u8 x7) := hc 7 _ (by omega) rfl
      have p8 : wr.cell? ⟨gA, i * 9 + 8, none⟩ = some (.bool x8) := hc 8 _ (by omega) rfl
      have hii : ((i : Int) < (A.length : Int)) := by omega
      clear hc
      cases hk : (x0 == kk) with
      | true =>
        go_wp2_with (first
          | (at_builtin; refine push_obn wr ⟨x0, x1, x2, x3, x4, x5, x6, x7, x8⟩ rfl rfl _ _ rfl w2.heap.size _ L L.length rfl rfl rfl HRr.out (by omega) HBw.out.size ?_; intro g5 cap5 w5 hown5 hg5 hlt5
             have HO5 : Hid (w5.ownsRow w2.heap.size 84 9 (.slice (some ⟨g5, 0, none⟩) (L.length + 1) cap5) (L ++ [Ob.mk x0 x1 x2 x3 x4 x5 x6 x7 x8]).length (flatO (L ++ [Ob.mk x0 x1 x2 x3 x4 x5 x6 x7 x8]))) := hown5
             have HB5 : Hid (Below w2.heap.size w2 w5) := (HBw.out.alloc HBw.out.size _).grown hg5 (by have := HBw.out.size; simp <;> omega) (fun b e => (HRr.out.lt b e).1)
             clear hown5 hg5 hlt5
             go_frame)
          | go_in)
        go_roundw
        case rel =>
          refine ⟨i + 1, by omega, by simp, ?_, HB5⟩
          rw [HS.out]
          simp only [hk, if_true]
          exact HO5
        case measure => simp [intOf]; omega
      | false =>
        go_wp2
        go_roundw
        case rel =>
          refine ⟨i + 1, by omega, by simp, ?_, HBw⟩
          rw [HS.out]
          simp only [hk]
          simpa using HRr
        case measure => simp [intOf]; omega
    · have hil : i = A.length := by omega
      subst hil
      have hii : ¬ ((A.length : Int) < (A.length : Int)) := by omega
      rw [List.take_length] at hL
      have hv := HV.out wr (HB2.out.trans (HBw.out.mono HB2.out.size))
      have HF : Hid (wr.ownsRow w.heap.size 84 9 (.slice adr L.length cpr) (ofKind kk A).length (flatO (ofKind kk A))) := by
        rw [← hL]
        exact own_mono HRr.out HB2.out.size
      clear hL
      go_wp2_with fail
      refine hv.mono ?_
      rintro e w3 ⟨rfl, rfl⟩
      clear hv
      go_wp2
      go_ret2
      exact ⟨_, rfl, HF.out, HB2.out.trans (HBw.out.mono HB2.out.size)⟩
end

set_option maxRecDepth 100000 in
set_option maxHeartbeats 400000 in
theorem newRef_bad (lim : Int) (w : World) (hbad : lim < 1 ∨ 64 < lim) : Calls Tryz.prog 43 #[.int .i64 lim] w fun e w' => e = .returned (.tuple #[.pointer none, .int .i64 1]) ∧ w' = w := by
  by_cases h1 : lim < 1
  · have d1 : decide (lim < 1) = true := decide_eq_true h1
    go_enter Tryz.func43, Tryz.ntmps43
    go_wp2
    go_ret2
    exact ⟨rfl, rfl⟩
  · have d1 : decide (lim < 1) = false := decide_eq_false h1
    have d2 : decide (lim > 64) = true := decide_eq_true (by omega)
    go_enter Tryz.func43, Tryz.ntmps43
    go_wp2
    go_ret2
    exact ⟨rfl, rfl⟩

set_option maxRecDepth 100000 in
set_option maxHeartbeats 1000000 in
theorem newRef_ok (C : Nat → Prop) (lim : Int) (w : World) (hC : ∀ b, C b → b < w.heap.size) (h1 : 1 ≤ lim) (h2 : lim ≤ 64) : Calls Tryz.prog 43 #[.int .i64 lim] w fun e w' => e = .returned (.tuple #[.pointer (some ⟨w.heap.size, 0, none⟩), .int .i64 0]) ∧ (∃ pv, IsRef C w' w.heap.size lim 0 pv (.slice none 0 0) [.slice none 0 0] [[]] []) ∧ Below w.heap.size w w' := by
  have d1 : decide (lim < 1) = false := decide_eq_false (by omega)
  have d2 : decide (lim > 64) = false := decide_eq_false (by omega)
  have hB1 : Below w.heap.size w (w.alloc (.cells #[.int .i64 lim, .slice none 0 0, .slice none 0 0, .int .i64 0] 151)) := belowAl (Below.refl _ _) _
  have hblk : (w.alloc (.cells #[.int .i64 lim, .slice none 0 0, .slice none 0 0, .int .i64 0] 151)).heap[w.heap.size]? = some (.cells #[.int .i64 lim, .slice none 0 0, .slice none 0 0, .int .i64 0] 151 (0, 0)) := alloc_last w _
  have HB1 : Hid _ := hB1
  have HBL : Hid _ := hblk
  have HC : Hid (∀ b, C b → b < w.heap.size) := hC
  have HNIL : Hid ((w.alloc (.cells #[.int .i64 lim, .slice none 0 0, .slice none 0 0, .int .i64 0] 151)).ownsRow (w.heap.size + 1) 44 1 (.slice none 0 0) ([] : List Value).length []) := World.ownsRow_nil _ _ _ _
  clear hB1 hblk hC
  go_enter Tryz.func43, Tryz.ntmps43
  go_wp2_with (first
    | (at_builtin; refine push_list (w.alloc (.cells #[.int .i64 lim, .slice none 0 0, .slice none 0 0, .int .i64 0] 151)) (.slice none 0 0) rfl rfl _ _ rfl (w.heap.size + 1) (.slice none 0 0) [] rfl (by simp [Act.eval]) HNIL.out (by simp) (by simp) rfl ?_; intro g5 cap5 w5 hown5 hg5 hat5 hlt5
       have er : w5.heap[w.heap.size]? = some (.cells #[.int .i64 lim, .slice none 0 0, .slice none 0 0, .int .i64 0] 151 (0, 0)) := (hg5.block _ (by simp; omega) (fun e => by cases e)).trans ((Below.heap_alloc _ _ _ (by simp)).trans HBL.out)
       have c3 : w5.cell? ⟨w.heap.size, 1, none⟩ = some (.slice none 0 0) := by simp [World.cell?, er]
       have f3 : w5.frozen? ⟨w.heap.size, 1, none⟩ = false := by simp [World.frozen?, er]
       have HE : Hid _ := er
       have HO5 : Hid _ := hown5
       have HB5 : Hid (Below w.heap.size w w5) := (belowAl HB1.out _).grown hg5 (by simp; omega) (fun b e => by cases e)
       have hl5 : w.heap.size < w5.heap.size := (Array.getElem?_eq_some_iff.1 er).1
       clear er hown5 hg5 hat5
       go_frame)
    | go_in)
  go_ret2
  refine ⟨rfl, ⟨.slice (some ⟨g5, 0, none⟩) 1 cap5, ?_⟩, HB5.out.setCell (p := ⟨w.heap.size, 1, none⟩) (Nat.le_refl _) _⟩
  have hrow : w5.ownsRow (w.heap.size + 1) 44 1 (.slice (some ⟨g5, 0, none⟩) 1 cap5) 1 [.slice none 0 0] := HO5.out
  refine ⟨by rw [heap_setCell_at HE.out]; simp, ?_, World.ownsRow_nil _ _ _ _, rfl, ?_, fun c => Nat.lt_irrefl _ (HC.out _ c), ?_, (fun b e => by cases e), ?_⟩
  · exact own_mono (own_keep hrow (fun b e => Below.heap_setCell _ _ _ _ (by have := (hrow.lt b e).1; show b ≠ w.heap.size; omega))) (Nat.zero_le _)
  · intro i hi hi'
    have : i = 0 := by simp at hi; omega
    subst this
    exact World.ownsRow_nil _ _ _ _
  · intro b e c
    have := (hrow.lt b e).1
    have := HC.out b c
    omega
  · intro v hv b e
    simp at hv
    subst hv
    cases e

end Go.Proofs.YtdgfjneapialdaaGreatDoor.S
