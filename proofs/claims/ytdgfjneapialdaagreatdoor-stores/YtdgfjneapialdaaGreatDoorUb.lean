import Derived.Test.YtdgfjneapialdaaGreatDoorUa
import Derived.Deep.QuietTactic
import Derived.BigQuiet
namespace Go.Proofs.YtdgfjneapialdaaGreatDoor.S
open Go Go.RowKit Go.Maps

/-- What holds of a step's texts and numbers. -/
structure StOk (t : St) : Prop where
  sz : t.s.size ≤ maxLen
  sz1 : t.o1.size ≤ maxLen
  o00 : 0 ≤ t.o0
  o01 : t.o0 ≤ 255
  on0 : -9223372036854775808 ≤ t.on
  on1 : t.on ≤ 9223372036854775807

section
variable {own : Nat → Nat} {w : World} {wb : Nat} {q bw bd : Value} {ws ds : List Value} {ps : List (Nat × Nat)} {m1 m2 m : Nat}
theorem stored_any (h : Inw own w wb q bw bd ws ds ps m1 m2 none0) (hm1 : m1 ≤ m) (hm2 : m2 ≤ m) (hm : m ≤ 1539999999999) (hps : ps.length ≤ 2000000000000) {i : Nat} (hi : i < ps.length) (t : St) (h1 : 2 ≤ t.k) (h2 : t.k ≤ 8) (ht : StOk t) :
    Calls Tryz.prog 30 #[.pointer (some ⟨wb, 0, none⟩), .agg #[.pointer (some ⟨ps[i].1, 0, none⟩), .pointer (some ⟨ps[i].2, 0, none⟩)], .agg t.arr] w (Went own w wb q ps (m + 1)) := by
  have hc : t.k = 2 ∨ t.k = 3 ∨ t.k = 4 ∨ t.k = 5 ∨ t.k = 6 ∨ t.k = 7 ∨ t.k = 8 := by omega
  obtain ⟨k, on, a, b, s, o0, o1, o2, o3, o4, o5, o6, o7, o8, c0, c1, c2, p0, p1, p2, p3⟩ := t
  obtain ⟨t1, t2, t3, t4, _, _⟩ := ht
  simp only [St.arr] at t1 t2 t3 t4 hc ⊢
  rcases hc with rfl | rfl | rfl | rfl | rfl | rfl | rfl
  · exact stored_create h hm1 hm2 hps hi rfl rfl on a b s o0 o1 o2 o3 o4 o5 o6 o7 o8 c0 c1 c2 p0 p1 p2 p3 t3 t4 t2
  · exact stored_get h hm1 hm2 hps hi rfl rfl on a b s o0 o1 o2 o3 o4 o5 o6 o7 o8 c0 c1 c2 p0 p1 p2 p3 t3 t4 t1
  · exact stored_list h hm1 hm2 hm hi rfl rfl on a b s o0 o1 o2 o3 o4 o5 o6 o7 o8 c0 c1 c2 p0 p1 p2 p3 t3 t4
  · exact stored_update h hm1 hm2 hps hi rfl rfl on a b s o0 o1 o2 o3 o4 o5 o6 o7 o8 c0 c1 c2 p0 p1 p2 p3 t3 t4 t2
  · exact stored_mark h hm1 hm2 hps hi rfl rfl on a b s o0 o1 o2 o3 o4 o5 o6 o7 o8 c0 c1 c2 p0 p1 p2 p3 t1
  · exact stored_remove h hm1 hm2 hps hi rfl rfl on a b s o0 o1 o2 o3 o4 o5 o6 o7 o8 c0 c1 c2 p0 p1 p2 p3 t3 t4 t1
  · exact stored_since h hm1 hm2 hm hi rfl rfl on a b s o0 o1 o2 o3 o4 o5 o6 o7 o8 c0 c1 c2 p0 p1 p2 p3

theorem begin_any (h : Inw own w wb q bw bd ws ds ps m1 m2 none0) (hps : ps.length ≤ 2000000000000) (t : St) (hk : t.k = 1) :
    Calls Tryz.prog 27 #[.pointer (some ⟨wb, 0, none⟩), .agg t.arr] w fun e w' => e = .returned (.bool true) ∧ ∃ own' q' ps', Inw own' w' wb q' bw bd ws ds ps' m1 m2 none0 ∧ ps.length ≤ ps'.length ∧ ps'.length ≤ ps.length + 1 ∧ Moves own w own' w' := by
  obtain ⟨k, on, a, b, s, o0, o1, o2, o3, o4, o5, o6, o7, o8, c0, c1, c2, p0, p1, p2, p3⟩ := t
  simp only [St.arr] at hk ⊢
  subst hk
  by_cases ha : a < 1 ∨ 64 < a
  · refine (begin_bad h on a b s o0 o1 o2 o3 o4 o5 o6 o7 o8 c0 c1 c2 p0 p1 p2 p3 ha).mono ?_
    rintro e w' ⟨rfl, own', hI, hM⟩
    exact ⟨rfl, own', q, ps, hI, Nat.le_refl _, by omega, hM⟩
  · refine (begin_ok h hps on a b s o0 o1 o2 o3 o4 o5 o6 o7 o8 c0 c1 c2 p0 p1 p2 p3 (by omega) (by omega)).mono ?_
    rintro e w' ⟨rfl, own', q', p, hI, hM⟩
    exact ⟨rfl, own', q', ps ++ [p], hI, by simp, by simp, hM⟩

/-- What is to be said of a step of the script. -/
def Stepped (own : Nat → Nat) (w : World) (wb m l : Nat) (e : Ending) (w' : World) : Prop :=
  e = .returned (.bool true) ∧ ∃ own' q bw bd ws ds ps m1 m2 m', Inw own' w' wb q bw bd ws ds ps m1 m2 none0 ∧ m1 ≤ m' ∧ m2 ≤ m' ∧ m' + ps.length ≤ m + l + 1 ∧ 0 < ps.length ∧ Moves own w own' w'

theorem arr_size (t : St) : t.arr.size = 21 := rfl
set_option maxRecDepth 100000 in
set_option maxHeartbeats 400000 in
theorem step_new (h : Inw own w wb q bw bd ws ds ps m1 m2 none0) (hm1 : m1 ≤ m) (hm2 : m2 ≤ m) (hps : ps.length ≤ 2000000000000) (h0 : 0 < ps.length) (t : St) (hk : t.k = 1) :
    Calls Tryz.prog 28 #[.pointer (some ⟨wb, 0, none⟩), .agg t.arr] w (Stepped own w wb m ps.length) := by
  have hB : Below w.heap.size w (w.alloc (.cells t.arr 86)) := belowAl (Below.refl _ _) _
  have hc := begin_any (h.below hB) hps t hk
  have HM : Hid (Moves own w (ownNew own w 0) (w.alloc (.cells t.arr 86))) := Moves.below hB
  have HMM : Hid (m1 ≤ m ∧ m2 ≤ m ∧ 0 < ps.length) := ⟨hm1, hm2, h0⟩
  have c0 : (w.alloc (.cells t.arr 86)).cell? ⟨w.heap.size, 0, none⟩ = some (.int .i64 1) := box_cell w t.arr 0 _ (by rw [← hk]; rfl)
  have hg1 := (MapKept.heap_alloc w (.cells t.arr 86)).1
  have hi47 : (Tryz.prog.info? 86).map (·.size) = some t.arr.size := size47
  have hl : w.heap.size < (w.alloc (.cells t.arr 86)).heap.size := by simp
  generalize t.arr = A at *
  clear h hps hB hk hm1 hm2 h0
  go_enter Tryz.func28, Tryz.ntmps28
  go_upto_region 1 with fail
  generalize w.alloc (.cells A 86) = W1 at *
  go_wp2_with (refine wpList_load_row rfl 86 _ rfl w.heap.size rfl 86 A (0, 0) _ hg1 Tryz.underlying86 rfl hi47 ?_)
  refine hc.mono ?_
  rintro e w' ⟨rfl, own', q', ps', hI, hl1, hl2, hM⟩
  have HF : Hid (∃ own' q bw bd ws ds ps' m1 m2 m', Inw own' w' wb q bw bd ws ds ps' m1 m2 none0 ∧ m1 ≤ m' ∧ m2 ≤ m' ∧ m' + ps'.length ≤ m + ps.length + 1 ∧ 0 < ps'.length ∧ Moves own w own' w') :=
    ⟨own', q', bw, bd, ws, ds, ps', m1, m2, m, hI, HMM.out.1, HMM.out.2.1, by omega, by have := HMM.out.2.2; omega, HM.out.trans hM⟩
  clear hc hI hM hl1 hl2
  go_wp2
  go_ret
  exact ⟨rfl, HF.out⟩

theorem pick_nat (c : Int) (n : Nat) (hn : 0 < n) : ∃ i : Nat, i < n ∧ pickI c (n : Int) = (i : Int) := by
  have := pickI_bd c (n : Int) (by omega)
  exact ⟨(pickI c (n : Int)).toNat, by omega, by omega⟩

theorem step_stored (h : Inw own w wb q bw bd ws ds ps m1 m2 none0) (hm1 : m1 ≤ m) (hm2 : m2 ≤ m) (hm : m ≤ 1539999999999) (hps : ps.length ≤ 2000000000000) (h0 : 0 < ps.length) (t : St) (h1 : 2 ≤ t.k) (h2 : t.k ≤ 8) (ht : StOk t) :
    Calls Tryz.prog 28 #[.pointer (some ⟨wb, 0, none⟩), .agg t.arr] w (Stepped own w wb m ps.length) := by
  have hB : Below w.heap.size w (w.alloc (.cells t.arr 86)).drew := (belowAl (Below.refl _ _) _).drew
  have hI := h.belowA hps hB
  obtain ⟨i, hi, hpi⟩ := pick_nat t.on ps.length h0
  have hc := stored_any hI hm1 hm2 hm hps hi t h1 h2 ht
  have hpk := fun W => pick_any t.on (ps.length : Int) W ht.on0 ht.on1 (by omega) (by omega)
  rw [hpi] at hpk
  have hM : Moves own w (ownNew own w ARG) (w.alloc (.cells t.arr 86)).drew := Moves.belowA ARG hB
  obtain ⟨ao, cap, eq⟩ := own_form h.desk.oq
  have hg : ∃ g, ao = some ⟨g, 0, none⟩ := by
    have := h.desk.oq.2
    rw [eq] at this
    rcases this with ⟨_, h2⟩ | ⟨g, cap', cur, h1, _⟩
    · omega
    · injection h1 with a; exact ⟨g, a⟩
  obtain ⟨g, rfl⟩ := hg
  have rd : ∀ {W : World}, W.ownsRow 0 91 2 q ps.length (flatP ps) → W.cell? ⟨g, i * 2, none⟩ = some (.pointer (some ⟨ps[i].1, 0, none⟩)) ∧ W.cell? ⟨g, i * 2 + 1, none⟩ = some (.pointer (some ⟨ps[i].2, 0, none⟩)) := by
    intro W hW
    have a1 := hW.cells (g := g) (by rw [eq]; rfl) (i * 2) _ (flatP_get ps i hi).1
    have a2 := hW.cells (g := g) (by rw [eq]; rfl) (i * 2 + 1) _ (flatP_get ps i hi).2
    rw [Addr.add_lit, Nat.zero_add] at a1 a2
    exact ⟨a1, a2⟩
  have hbx : (w.alloc (.cells t.arr 86)).drew.heap[w.heap.size]? = some (.cells t.arr 86 (0, 0)) := (MapKept.heap_alloc w (.cells t.arr 86)).1
  refine step_reg g i ps.length cap ps[i].1 ps[i].2 t.k t.on t.arr (arr_size t) _ rfl rfl h.desk.isw.lt (own_lt h.desk.oq (by rw [eq]; rfl)) (by rw [← eq]; exact h.desk.isw.p0) (rd h.desk.oq).1 (rd h.desk.oq).2 hps (by omega) hpk (hc.mono ?_)
    (by rw [beq_eq_false_iff_ne]; omega) (by rw [beq_eq_false_iff_ne]; omega) (by rw [beq_eq_false_iff_ne]; omega) (by rw [beq_eq_false_iff_ne]; omega) (decide_eq_true (by omega)) (decide_eq_true (by omega))
  rintro e w' ⟨rfl, own', bw', bd', ws', ds', m1', m2', hI', hm1', hm2', hM'⟩
  have hb' : w'.heap[w.heap.size]? = some (.cells t.arr 86 (0, 0)) := (hM'.kept.block _ ⟨(Array.getElem?_eq_some_iff.1 hbx).1, ownNew_new (Nat.le_refl _)⟩ (Array.getElem?_eq_some_iff.1 hbx).1).trans hbx
  refine ⟨rfl, ⟨rfl, own', q, bw', bd', ws', ds', ps, m1', m2', m + 1, hI', hm1', hm2', by omega, h0, hM.trans hM'⟩, by rw [← eq]; exact hI'.desk.isw.p0, (rd hI'.desk.oq).1, (rd hI'.desk.oq).2, ?_, ?_⟩
  · rw [cell_of_row _ _ _ _ _ _ hb']; rfl
  · intro j v hv
    rw [cell_of_row _ _ _ _ _ _ hb', Nat.zero_add]
    simpa using hv

theorem step_any (h : Inw own w wb q bw bd ws ds ps m1 m2 none0) (hm1 : m1 ≤ m) (hm2 : m2 ≤ m) (hm : m ≤ 1539999999999) (hps : ps.length ≤ 2000000000000) (h0 : 0 < ps.length) (t : St) (h1 : 1 ≤ t.k) (h2 : t.k ≤ 8) (ht : StOk t) :
    Calls Tryz.prog 28 #[.pointer (some ⟨wb, 0, none⟩), .agg t.arr] w (Stepped own w wb m ps.length) := by
  by_cases e : t.k = 1
  · exact step_new h hm1 hm2 hps h0 t e
  · exact step_stored h hm1 hm2 hm hps h0 t (by omega) h2 ht

theorem start_inw (w : World) (hT : Tab w) (h0 : 1 < w.heap.size) : Inw (ownNew (fun _ => ARG) w 0) (w.alloc (.cells (wArr (.slice none 0 0) (.slice none 0 0) (.slice none 0 0)) 81)) w.heap.size (.slice none 0 0) (.slice none 0 0) (.slice none 0 0) [] [] [] 0 0 none0 := by
  have hb : (w.alloc (.cells (wArr (.slice none 0 0) (.slice none 0 0) (.slice none 0 0)) 81)).heap[w.heap.size]? = some (.cells (wArr (.slice none 0 0) (.slice none 0 0) (.slice none 0 0)) 81 (0, 0)) := (MapKept.heap_alloc w _).1
  have no : ∀ b, (Value.slice none 0 0).ownBlock = some b → False := fun b e => by cases e
  refine ⟨⟨⟨hb, World.ownsRow_nil _ _ _ _, World.ownsRow_nil _ _ _ _⟩, hT.keep (Below.heap_alloc _ _ _ h0), ownNew_new (Nat.le_refl _), ownNew_old h0, ownNew_old (by omega), World.ownsRow_nil _ _ _ _, fun b e => (no b e).elim, fun b e => (no b e).elim, fun b e => (no b e).elim, by omega, fun e => no 1 e, fun e => no 1 e, fun e => no 1 e, rfl, rfl, fun i hi => by simp at hi, fun i hi => by simp at hi⟩, fun i hi => by simp at hi⟩
end

end Go.Proofs.YtdgfjneapialdaaGreatDoor.S
