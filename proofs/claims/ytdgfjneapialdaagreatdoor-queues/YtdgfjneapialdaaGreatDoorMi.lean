import Derived.Test.YtdgfjneapialdaaGreatDoorMc
import Derived.Test.YtdgfjneapialdaaGreatDoorMf
import Derived.Test.YtdgfjneapialdaaGreatDoorMh
import Derived.Test.YtdgfjneapialdaaGreatDoorMl
namespace Go.Proofs.YtdgfjneapialdaaGreatDoor
open Go Go.RowKit Go.Maps Go.Lib Go.Sort

/-- What holds of a step's texts and numbers. -/
structure StOk (U : List ByteArray) (t : St) : Prop where
  sz : t.s.size ≤ maxLen
  key : noKeyB t.s = false → t.s ∈ U
  on0 : -9223372036854775808 ≤ t.on
  on1 : t.on ≤ 9223372036854775807

section
variable {own : Nat → Nat} {U : List ByteArray} {w : World} {wb : Nat} {q bw bd : Value} {ws ds : List Value} {ps : List (Nat × Nat)} {m n : Nat}
theorem lined_any (h : Inv own U w wb q bw bd ws ds ps m m n none0) (hU : Keys U) (hn : n ≤ 1000000000000) (hm : m ≤ 999999999999) (hps : ps.length ≤ 2000000000000) {i : Nat} (hi : i < ps.length) (t : St) (h1 : 12 ≤ t.k) (h2 : t.k ≤ 19) (ht : StOk U t) :
    Calls Tryz.prog 31 #[.pointer (some ⟨wb, 0, none⟩), .agg #[.pointer (some ⟨ps[i].1, 0, none⟩), .pointer (some ⟨ps[i].2, 0, none⟩)], .agg t.arr] w (Went own U w wb q ps (m + 1) (n + 1)) := by
  have hc : t.k = 12 ∨ t.k = 13 ∨ t.k = 14 ∨ t.k = 15 ∨ t.k = 16 ∨ t.k = 17 ∨ t.k = 18 ∨ t.k = 19 := by omega
  rcases hc with e | e | e | e | e | e | e | e
  · exact lined_add h hU hps hi rfl rfl t e ht.sz ht.key
  · exact lined_after h hU hn hps hi rfl rfl t e ht.sz ht.key
  · exact lined_limited h hU hn hps hi rfl rfl t e ht.sz ht.key
  · exact lined_forget h hU hps hi rfl rfl t e ht.sz ht.key
  · exact lined_take h hU hps hi rfl rfl t e
  · exact lined_done h hU hps hi rfl rfl t e ht.sz ht.key
  · exact lined_tick h hU hn hps hi rfl rfl t e
  · exact lined_told h hU hm hi rfl rfl t e

/-- What is to be said of a step of the script. -/
def Stepped (own : Nat → Nat) (U : List ByteArray) (w : World) (wb m l n : Nat) (e : Ending) (w' : World) : Prop :=
  e = .returned (.bool true) ∧ ∃ own' q bw bd ws ds ps m', Inv own' U w' wb q bw bd ws ds ps m' m' n none0 ∧ m' + ps.length ≤ m + l + 1 ∧ 0 < ps.length ∧ Moves own w own' w'

theorem arr_size (t : St) : t.arr.size = 21 := rfl
set_option maxRecDepth 100000 in
set_option maxHeartbeats 400000 in
theorem step_new (h : Inv own U w wb q bw bd ws ds ps m m n none0) (hps : ps.length ≤ 2000000000000) (t : St) (hk : t.k = 11) :
    Calls Tryz.prog 28 #[.pointer (some ⟨wb, 0, none⟩), .agg t.arr] w (Stepped own U w wb m ps.length (n + 1)) := by
  have hB : Below w.heap.size w (w.alloc (.cells t.arr 86)) := belowAl (Below.refl _ _) _
  have hc := begin_any (h.below hB) hps t hk
  have HM : Hid (Moves own w (ownNew own w 0) (w.alloc (.cells t.arr 86))) := Moves.below hB
  have c0 : (w.alloc (.cells t.arr 86)).cell? ⟨w.heap.size, 0, none⟩ = some (.int .i64 11) := box_cell w t.arr 0 _ (by rw [← hk]; rfl)
  have hg1 := (MapKept.heap_alloc w (.cells t.arr 86)).1
  have hi47 : (Tryz.prog.info? 86).map (·.size) = some t.arr.size := size47
  have hl : w.heap.size < (w.alloc (.cells t.arr 86)).heap.size := by simp
  generalize t.arr = A at *
  clear h hps hB hk
  go_enter Tryz.func28, Tryz.ntmps28
  go_upto_region 1 with fail
  generalize w.alloc (.cells A 86) = W1 at *
  go_wp2_with (refine wpList_load_row rfl 86 _ rfl w.heap.size rfl 86 A (0, 0) _ hg1 Tryz.underlying86 rfl hi47 ?_)
  refine hc.mono ?_
  rintro e w' ⟨rfl, own', q', p, hI, hM⟩
  have HF : Hid (∃ own' q bw bd ws ds ps' m', Inv own' U w' wb q bw bd ws ds ps' m' m' (n + 1) none0 ∧ m' + ps'.length ≤ m + ps.length + 1 ∧ 0 < ps'.length ∧ Moves own w own' w') :=
    ⟨own', q', bw, bd, ws, ds, ps ++ [p], m, hI.more, by simp; omega, by simp, HM.out.trans hM⟩
  clear hc hI hM
  go_wp2
  go_ret
  exact ⟨rfl, HF.out⟩

theorem pick_nat (c : Int) (n : Nat) (hn : 0 < n) : ∃ i : Nat, i < n ∧ pickI c (n : Int) = (i : Int) := by
  have := pickI_bd c (n : Int) (by omega)
  exact ⟨(pickI c (n : Int)).toNat, by omega, by omega⟩

theorem step_lined (h : Inv own U w wb q bw bd ws ds ps m m n none0) (hU : Keys U) (hn : n ≤ 1000000000000) (hm : m ≤ 999999999999) (hps : ps.length ≤ 2000000000000) (h0 : 0 < ps.length) (t : St) (h1 : 12 ≤ t.k) (h2 : t.k ≤ 19) (ht : StOk U t) :
    Calls Tryz.prog 28 #[.pointer (some ⟨wb, 0, none⟩), .agg t.arr] w (Stepped own U w wb m ps.length (n + 1)) := by
  have hB : Below w.heap.size w (w.alloc (.cells t.arr 86)).drew := (belowAl (Below.refl _ _) _).drew
  have hI := h.belowA hps hB
  obtain ⟨i, hi, hpi⟩ := pick_nat t.on ps.length h0
  have hc := lined_any hI hU hn hm hps hi t h1 h2 ht
  have hpk := fun W => pick_any t.on (ps.length : Int) W ht.on0 ht.on1 (by omega) (by omega)
  rw [hpi] at hpk
  have hM : Moves own w (ownNew own w ARG) (w.alloc (.cells t.arr 86)).drew := Moves.belowA ARG hB
  obtain ⟨ao, cap, eq⟩ := own_form h.desk.oq
  have hg : ∃ g, ao = some ⟨g, 0, none⟩ := by
    have := h.desk.oq.2
    rw [eq] at this
    rcases this with ⟨_, h2⟩ | ⟨g, cap', cur, h1, _⟩
    · omega
    · injection h1 with a; exact ⟨g, a⟩
  obtain ⟨g, rfl⟩ := hg
  have rd : ∀ {W : World}, W.ownsRow 0 96 2 q ps.length (flatP ps) → W.cell? ⟨g, i * 2, none⟩ = some (.pointer (some ⟨ps[i].1, 0, none⟩)) ∧ W.cell? ⟨g, i * 2 + 1, none⟩ = some (.pointer (some ⟨ps[i].2, 0, none⟩)) := by
    intro W hW
    have a1 := hW.cells (g := g) (by rw [eq]; rfl) (i * 2) _ (flatP_get ps i hi).1
    have a2 := hW.cells (g := g) (by rw [eq]; rfl) (i * 2 + 1) _ (flatP_get ps i hi).2
    rw [Addr.add_lit, Nat.zero_add] at a1 a2
    exact ⟨a1, a2⟩
  have hbx : (w.alloc (.cells t.arr 86)).drew.heap[w.heap.size]? = some (.cells t.arr 86 (0, 0)) := (MapKept.heap_alloc w (.cells t.arr 86)).1
  refine step_reg g i ps.length cap ps[i].1 ps[i].2 t.k t.on t.arr (arr_size t) _ rfl rfl h.desk.isw.lt (own_lt h.desk.oq (by rw [eq]; rfl)) (by rw [← eq]; exact h.desk.isw.p1) (rd h.desk.oq).1 (rd h.desk.oq).2 hps (by omega) hpk (hc.mono ?_)
    (by rw [beq_eq_false_iff_ne]; omega) (by rw [beq_eq_false_iff_ne]; omega) (by rw [beq_eq_false_iff_ne]; omega) (by rw [beq_eq_false_iff_ne]; omega) (decide_eq_true (by omega)) (decide_eq_false (by omega)) (decide_eq_true (by omega)) (decide_eq_true (by omega))
  rintro e w' ⟨rfl, own', bw', bd', ws', ds', m', hI', hm', hM'⟩
  have hb' : w'.heap[w.heap.size]? = some (.cells t.arr 86 (0, 0)) := (hM'.kept.block _ ⟨(Array.getElem?_eq_some_iff.1 hbx).1, ownNew_new (Nat.le_refl _)⟩ (Array.getElem?_eq_some_iff.1 hbx).1).trans hbx
  refine ⟨rfl, ⟨rfl, own', q, bw', bd', ws', ds', ps, m', hI', by omega, h0, hM.trans hM'⟩, by rw [← eq]; exact hI'.desk.isw.p1, (rd hI'.desk.oq).1, (rd hI'.desk.oq).2, ?_, ?_⟩
  · rw [cell_of_row _ _ _ _ _ _ hb']; rfl
  · intro j v hv
    rw [cell_of_row _ _ _ _ _ _ hb', Nat.zero_add]
    simpa using hv
end

end Go.Proofs.YtdgfjneapialdaaGreatDoor
