import Derived.Test.YtdgfjneapialdaaGreatDoorTx
namespace Go.Proofs.YtdgfjneapialdaaGreatDoor.S
open Go Go.RowKit Go.Maps

section
variable {own : Nat → Nat} {w : World} {wb : Nat} {q bw bd : Value} {ws ds : List Value} {ps : List (Nat × Nat)} {m1 m2 m : Nat}
theorem Inw.word (h : Inw own w wb q bw bd ws ds ps m1 m2 none0) {w5 w6 : World} (hB : Below w.heap.size w w5) {v : Value} {B n : Nat} {c : List Value} (hr : w5.ownsRow B 84 9 v n c) (hwB : w.heap.size ≤ B) {bw' : Value} {ns : List Value} (hw : WIs w6 wb q bw' bd (ws ++ ns) ds) (hn : ns.length = 4) (hk : ∀ x ∈ ns, KO w6 B (9000 + m1) x) (hbw : bw'.ownBlock = bw.ownBlock ∨ ∀ k, bw'.ownBlock = some k → w5.heap.size ≤ k) (k : KeptC (Aside w5 wb bw.ownBlock v.ownBlock) w5 w6) :
    ∃ own', Inw own' w6 wb q bw' bd (ws ++ ns) ds ps (m1 + 1) m2 none0 ∧ Moves own w own' w6 := by
  have hI := h.below hB
  have hz : 0 < ARG := by unfold ARG; omega
  have hv : ∀ b, v.ownBlock = some b → ownNew own w 0 b = 0 := fun b e => ownNew_new (Nat.le_trans hwB (hr.lt b e).1)
  have k' := hI.desk.word_kept hv k
  refine ⟨_, ⟨hI.desk.word (B := B) (own_typ hr) (fun x hx b e e2 => ?_) hw hn hk (Nat.lt_of_lt_of_le h.desk.tab.lt hwB) (fun b h1 _ => ownNew_new (Nat.le_trans hwB h1)) (fun b e => (hr.lt b e).1) hbw k, fun i hi hH => (hI.th i hi hH).other (a := 0) (by omega) (by omega) k'⟩, (Moves.below hB).trans (Moves.call hz k')⟩
  obtain ⟨j, hj, rfl⟩ := List.getElem_of_mem hx
  have h1 := (h.desk.w1 j hj).1.lt e
  have h2 := (hr.lt b e2).1
  omega
theorem Inw.due (h : Inw own w wb q bw bd ws ds ps m1 m2 none0) {w5 w6 : World} (hB : Below w.heap.size w w5) {v : Value} {B n : Nat} {c : List Value} (hr : w5.ownsRow B 170 10 v n c) (hwB : w.heap.size ≤ B) {bd' : Value} {ns : List Value} (hw : WIs w6 wb q bw bd' ws (ds ++ ns)) (hn : ns.length = 4) (hk : ∀ x ∈ ns, KE w6 B (9000 + m2) x) (hbw : bd'.ownBlock = bd.ownBlock ∨ ∀ k, bd'.ownBlock = some k → w5.heap.size ≤ k) (k : KeptC (Aside w5 wb bd.ownBlock v.ownBlock) w5 w6) :
    ∃ own', Inw own' w6 wb q bw bd' ws (ds ++ ns) ps m1 (m2 + 1) none0 ∧ Moves own w own' w6 := by
  have hI := h.below hB
  have hz : 0 < ARG := by unfold ARG; omega
  have hv : ∀ b, v.ownBlock = some b → ownNew own w 0 b = 0 := fun b e => ownNew_new (Nat.le_trans hwB (hr.lt b e).1)
  have k' := hI.desk.due_kept hv k
  refine ⟨_, ⟨hI.desk.due (B := B) (own_typ hr) (fun x hx b e e2 => ?_) hw hn hk (Nat.lt_of_lt_of_le h.desk.tab.lt hwB) (fun b h1 _ => ownNew_new (Nat.le_trans hwB h1)) (fun b e => (hr.lt b e).1) hbw k, fun i hi hH => (hI.th i hi hH).other (a := 0) (by omega) (by omega) k'⟩, (Moves.below hB).trans (Moves.call hz k')⟩
  obtain ⟨j, hj, rfl⟩ := List.getElem_of_mem hx
  have h1 := (h.desk.d1 j hj).1.lt e
  have h2 := (hr.lt b e2).1
  omega

set_option maxRecDepth 100000 in
set_option maxHeartbeats 1000000 in
theorem stored_list (h : Inw own w wb q bw bd ws ds ps m1 m2 none0) (hm1 : m1 ≤ m) (hm2 : m2 ≤ m) (hm : m ≤ 1539999999999) {i : Nat} (hi : i < ps.length) {qb rb : Nat} (hqb : qb = ps[i].1) (hrb : rb = ps[i].2) (on a b : Int) (s : ByteArray) (o0 : Int) (o1 : ByteArray) (o2 o3 o4 o5 o6 o7 : Int) (o8 : Bool) (c0 c1 c2 p0 : Int) (p1 : ByteArray) (p2 p3 : Int) (ho0 : 0 ≤ o0) (ho1 : o0 ≤ 255) :
    Calls Tryz.prog 30 #[.pointer (some ⟨wb, 0, none⟩), .agg #[.pointer (some ⟨qb, 0, none⟩), .pointer (some ⟨rb, 0, none⟩)], .agg #[.int .i64 4, .int .i64 on, .int .i64 a, .int .i64 b, .string s, .int .u8 o0, .string o1, .int .i64 o2, .int .i64 o3, .int .i64 o4, .int .i64 o5, .int .i64 o6, .int .u8 o7, .bool o8, .int .i64 c0, .int .i64 c1, .int .i64 c2, .int .u8 p0, .string p1, .int .i64 p2, .int .i64 p3]] w (Went own w wb q ps (m + 1)) := by
  obtain ⟨hB, x0, x1, x2, x3, hsz⟩ := box4 w (.cells #[.pointer (some ⟨qb, 0, none⟩), .pointer (some ⟨rb, 0, none⟩)] 91) (.cells #[.int .i64 4, .int .i64 on, .int .i64 a, .int .i64 b, .string s, .int .u8 o0, .string o1, .int .i64 o2, .int .i64 o3, .int .i64 o4, .int .i64 o5, .int .i64 o6, .int .u8 o7, .bool o8, .int .i64 c0, .int .i64 c1, .int .i64 c2, .int .u8 p0, .string p1, .int .i64 p2, .int .i64 p3] 86) (.cells #[.int .u8 0, .string ⟨#[]⟩, .int .i64 0, .int .i64 0, .int .i64 0, .int .i64 0, .int .i64 0, .int .u8 0, .bool false] 84) (.cells #[.int .u8 0, .string ⟨#[]⟩, .int .i64 0, .int .i64 0, .int .i64 0, .int .i64 0, .int .i64 0, .int .u8 0, .bool false] 84)
  have hI := h.below hB
  have hT0 := hI.th i hi id
  rw [← hqb, ← hrb] at hT0
  have hp := pair_list hT0 o0 ho0 ho1
  have HI : Hid (Inw own w wb q bw bd ws ds ps m1 m2 none0) := h
  have HM : Hid (m1 ≤ m ∧ m2 ≤ m ∧ m ≤ 1539999999999) := ⟨hm1, hm2, hm⟩
  have HB : Hid (Below w.heap.size w ((((w.alloc (.cells #[.pointer (some ⟨qb, 0, none⟩), .pointer (some ⟨rb, 0, none⟩)] 91)).alloc (.cells #[.int .i64 4, .int .i64 on, .int .i64 a, .int .i64 b, .string s, .int .u8 o0, .string o1, .int .i64 o2, .int .i64 o3, .int .i64 o4, .int .i64 o5, .int .i64 o6, .int .u8 o7, .bool o8, .int .i64 c0, .int .i64 c1, .int .i64 c2, .int .u8 p0, .string p1, .int .i64 p2, .int .i64 p3] 86)).alloc (.cells #[.int .u8 0, .string ⟨#[]⟩, .int .i64 0, .int .i64 0, .int .i64 0, .int .i64 0, .int .i64 0, .int .u8 0, .bool false] 84)).alloc (.cells #[.int .u8 0, .string ⟨#[]⟩, .int .i64 0, .int .i64 0, .int .i64 0, .int .i64 0, .int .i64 0, .int .u8 0, .bool false] 84))) := hB
  have HX0 : Hid _ := x0
  have HX1 : Hid _ := x1
  have HSZ : Hid _ := hsz
  clear h hI hT0 hqb hrb hB x0 x1 x2 x3 hsz hm1 hm2 hm hi
  go_enter Tryz.func30, Tryz.ntmps30
  go_wp2_with fail
  refine hp.mono ?_
  rintro e w3 ⟨v, ver, rfl, k1, hp2⟩
  clear hp
  generalize ((((w.alloc (.cells #[.pointer (some ⟨qb, 0, none⟩), .pointer (some ⟨rb, 0, none⟩)] 91)).alloc (.cells #[.int .i64 4, .int .i64 on, .int .i64 a, .int .i64 b, .string s, .int .u8 o0, .string o1, .int .i64 o2, .int .i64 o3, .int .i64 o4, .int .i64 o5, .int .i64 o6, .int .u8 o7, .bool o8, .int .i64 c0, .int .i64 c1, .int .i64 c2, .int .u8 p0, .string p1, .int .i64 p2, .int .i64 p3] 86)).alloc (.cells #[.int .u8 0, .string ⟨#[]⟩, .int .i64 0, .int .i64 0, .int .i64 0, .int .i64 0, .int .i64 0, .int .u8 0, .bool false] 84)).alloc (.cells #[.int .u8 0, .string ⟨#[]⟩, .int .i64 0, .int .i64 0, .int .i64 0, .int .i64 0, .int .i64 0, .int .u8 0, .bool false] 84)) = W at *
  have nb : ∀ {k : Nat} {ob : Obj}, W.heap[k]? = some ob → w3.heap[k]? = some ob := fun hb => (k1.block _ (Array.getElem?_eq_some_iff.1 hb).1).trans hb
  have b0 := nb HX0.out
  have b1 := nb HX1.out
  have d0 : w3.cell? ⟨w.heap.size, 1, none⟩ = some (.pointer (some ⟨rb, 0, none⟩)) := by simp [World.cell?, b0]
  have e5 : w3.cell? ⟨w.heap.size + 1, 5, none⟩ = some (.int .u8 o0) := by simp [World.cell?, b1]
  have K1 : Hid (Below W.heap.size W w3) := k1
  clear k1 b0 b1 nb
  go_wp2_with fail
  refine hp2.mono ?_
  rintro e w4 ⟨v2, rfl, k2, L, hL, r1, r2⟩
  clear hp2 d0 e5
  have hs := sameObjects_any w4 _ _ v v2 L r1 r2 (by omega)
  have HB4 : Hid (Below w.heap.size w w4) := (HB.out.trans (K1.out.mono HB.out.size)).trans (k2.mono (Nat.le_trans HB.out.size K1.out.size))
  have HS4 : Hid (W.heap.size ≤ w4.heap.size) := Nat.le_trans K1.out.size k2.size
  have HR : Hid (w4.ownsRow W.heap.size 84 9 v L.length (flatO L)) := r1
  have HL : Hid (L.length ≤ 64) := hL
  clear k2 hL r1 r2
  go_wp2_with fail
  refine hs.mono ?_
  rintro e w5 ⟨rfl, k5⟩
  clear hs
  have HB5 : Hid (Below w.heap.size w w5) := HB4.out.trans (k5.mono HB4.out.size)
  have hr5 : w5.ownsRow W.heap.size 84 9 v L.length (flatO L) := row_below HR.out k5
  have HR5 : Hid (w5.ownsRow W.heap.size 84 9 v L.length (flatO L)) := hr5
  have hd := (HI.out.desk.below (a := 0) HB5.out)
  have ho := object_any hd.isw hd.l1 (by have := HM.out; omega) hr5 (Nat.le_trans HS4.out k5.size) HL.out
  have hl5 := hd.isw.lt
  clear k5 hr5 hd
  go_wp2_with fail
  refine ho.mono ?_
  rintro e w6 ⟨rfl, bw', ns, hw6, hn6, hk6, hb6, k6⟩
  have HF : Hid (∃ own' bw bd ws ds m1 m2, Inw own' w6 wb q bw bd ws ds ps m1 m2 none0 ∧ m1 ≤ m + 1 ∧ m2 ≤ m + 1 ∧ Moves own w own' w6) := by
    obtain ⟨own', hI6, hM6⟩ := HI.out.word HB5.out HR5.out (by have := HSZ.out; omega) hw6 hn6 hk6 hb6 k6
    exact ⟨own', bw', bd, ws ++ ns, ds, m1 + 1, m2, hI6, by have := HM.out.1; omega, by have := HM.out.2.1; omega, hM6⟩
  clear ho hl5 hw6 hn6 hk6 hb6 k6
  go_wp2
  go_ret
  exact ⟨rfl, HF.out⟩

set_option maxRecDepth 100000 in
set_option maxHeartbeats 1000000 in
theorem stored_since (h : Inw own w wb q bw bd ws ds ps m1 m2 none0) (hm1 : m1 ≤ m) (hm2 : m2 ≤ m) (hm : m ≤ 1539999999999) {i : Nat} (hi : i < ps.length) {qb rb : Nat} (hqb : qb = ps[i].1) (hrb : rb = ps[i].2) (on a b : Int) (s : ByteArray) (o0 : Int) (o1 : ByteArray) (o2 o3 o4 o5 o6 o7 : Int) (o8 : Bool) (c0 c1 c2 p0 : Int) (p1 : ByteArray) (p2 p3 : Int)  :
    Calls Tryz.prog 30 #[.pointer (some ⟨wb, 0, none⟩), .agg #[.pointer (some ⟨qb, 0, none⟩), .pointer (some ⟨rb, 0, none⟩)], .agg #[.int .i64 8, .int .i64 on, .int .i64 a, .int .i64 b, .string s, .int .u8 o0, .string o1, .int .i64 o2, .int .i64 o3, .int .i64 o4, .int .i64 o5, .int .i64 o6, .int .u8 o7, .bool o8, .int .i64 c0, .int .i64 c1, .int .i64 c2, .int .u8 p0, .string p1, .int .i64 p2, .int .i64 p3]] w (Went own w wb q ps (m + 1)) := by
  obtain ⟨hB, x0, x1, x2, x3, hsz⟩ := box4 w (.cells #[.pointer (some ⟨qb, 0, none⟩), .pointer (some ⟨rb, 0, none⟩)] 91) (.cells #[.int .i64 8, .int .i64 on, .int .i64 a, .int .i64 b, .string s, .int .u8 o0, .string o1, .int .i64 o2, .int .i64 o3, .int .i64 o4, .int .i64 o5, .int .i64 o6, .int .u8 o7, .bool o8, .int .i64 c0, .int .i64 c1, .int .i64 c2, .int .u8 p0, .string p1, .int .i64 p2, .int .i64 p3] 86) (.cells #[.int .u8 0, .string ⟨#[]⟩, .int .i64 0, .int .i64 0, .int .i64 0, .int .i64 0, .int .i64 0, .int .u8 0, .bool false] 84) (.cells #[.int .u8 0, .string ⟨#[]⟩, .int .i64 0, .int .i64 0, .int .i64 0, .int .i64 0, .int .i64 0, .int .u8 0, .bool false] 84)
  have hI := h.below hB
  have hT0 := hI.th i hi id
  rw [← hqb, ← hrb] at hT0
  have hp := pair_since hT0 a b
  have HI : Hid (Inw own w wb q bw bd ws ds ps m1 m2 none0) := h
  have HM : Hid (m1 ≤ m ∧ m2 ≤ m ∧ m ≤ 1539999999999) := ⟨hm1, hm2, hm⟩
  have HB : Hid (Below w.heap.size w ((((w.alloc (.cells #[.pointer (some ⟨qb, 0, none⟩), .pointer (some ⟨rb, 0, none⟩)] 91)).alloc (.cells #[.int .i64 8, .int .i64 on, .int .i64 a, .int .i64 b, .string s, .int .u8 o0, .string o1, .int .i64 o2, .int .i64 o3, .int .i64 o4, .int .i64 o5, .int .i64 o6, .int .u8 o7, .bool o8, .int .i64 c0, .int .i64 c1, .int .i64 c2, .int .u8 p0, .string p1, .int .i64 p2, .int .i64 p3] 86)).alloc (.cells #[.int .u8 0, .string ⟨#[]⟩, .int .i64 0, .int .i64 0, .int .i64 0, .int .i64 0, .int .i64 0, .int .u8 0, .bool false] 84)).alloc (.cells #[.int .u8 0, .string ⟨#[]⟩, .int .i64 0, .int .i64 0, .int .i64 0, .int .i64 0, .int .i64 0, .int .u8 0, .bool false] 84))) := hB
  have HX0 : Hid _ := x0
  have HX1 : Hid _ := x1
  have HSZ : Hid _ := hsz
  clear h hI hT0 hqb hrb hB x0 x1 x2 x3 hsz hm1 hm2 hm hi
  go_enter Tryz.func30, Tryz.ntmps30
  go_wp2_with fail
  refine hp.mono ?_
  rintro e w3 ⟨v, ver, rfl, k1, hp2⟩
  clear hp
  generalize ((((w.alloc (.cells #[.pointer (some ⟨qb, 0, none⟩), .pointer (some ⟨rb, 0, none⟩)] 91)).alloc (.cells #[.int .i64 8, .int .i64 on, .int .i64 a, .int .i64 b, .string s, .int .u8 o0, .string o1, .int .i64 o2, .int .i64 o3, .int .i64 o4, .int .i64 o5, .int .i64 o6, .int .u8 o7, .bool o8, .int .i64 c0, .int .i64 c1, .int .i64 c2, .int .u8 p0, .string p1, .int .i64 p2, .int .i64 p3] 86)).alloc (.cells #[.int .u8 0, .string ⟨#[]⟩, .int .i64 0, .int .i64 0, .int .i64 0, .int .i64 0, .int .i64 0, .int .u8 0, .bool false] 84)).alloc (.cells #[.int .u8 0, .string ⟨#[]⟩, .int .i64 0, .int .i64 0, .int .i64 0, .int .i64 0, .int .i64 0, .int .u8 0, .bool false] 84)) = W at *
  have nb : ∀ {k : Nat} {ob : Obj}, W.heap[k]? = some ob → w3.heap[k]? = some ob := fun hb => (k1.block _ (Array.getElem?_eq_some_iff.1 hb).1).trans hb
  have b0 := nb HX0.out
  have b1 := nb HX1.out
  have d0 : w3.cell? ⟨w.heap.size, 1, none⟩ = some (.pointer (some ⟨rb, 0, none⟩)) := by simp [World.cell?, b0]
  have e2 : w3.cell? ⟨w.heap.size + 1, 2, none⟩ = some (.int .i64 a) := by simp [World.cell?, b1]
  have e3 : w3.cell? ⟨w.heap.size + 1, 3, none⟩ = some (.int .i64 b) := by simp [World.cell?, b1]
  have K1 : Hid (Below W.heap.size W w3) := k1
  clear k1 b0 b1 nb
  go_wp2_with fail
  refine hp2.mono ?_
  rintro e w4 ⟨v2, rfl, k2, L, hL, r1, r2⟩
  clear hp2 d0 e2 e3
  have hs := sameEvents_any w4 _ _ v v2 L r1 r2 (by omega)
  have HB4 : Hid (Below w.heap.size w w4) := (HB.out.trans (K1.out.mono HB.out.size)).trans (k2.mono (Nat.le_trans HB.out.size K1.out.size))
  have HS4 : Hid (W.heap.size ≤ w4.heap.size) := Nat.le_trans K1.out.size k2.size
  have HR : Hid (w4.ownsRow W.heap.size 170 10 v L.length (L.flatMap evP)) := r1
  have HL : Hid (L.length ≤ 64) := hL
  clear k2 hL r1 r2
  go_wp2_with fail
  refine hs.mono ?_
  rintro e w5 ⟨rfl, k5⟩
  clear hs
  have HB5 : Hid (Below w.heap.size w w5) := HB4.out.trans (k5.mono HB4.out.size)
  have hr5 : w5.ownsRow W.heap.size 170 10 v L.length (L.flatMap evP) := row_below HR.out k5
  have HR5 : Hid (w5.ownsRow W.heap.size 170 10 v L.length (L.flatMap evP)) := hr5
  have hd := (HI.out.desk.below (a := 0) HB5.out)
  have ho := event_any hd.isw hd.l2 (by have := HM.out; omega) hr5 (Nat.le_trans HS4.out k5.size) HL.out
  have hl5 := hd.isw.lt
  clear k5 hr5 hd
  go_wp2_with fail
  refine ho.mono ?_
  rintro e w6 ⟨rfl, bd', ns, hw6, hn6, hk6, hb6, k6⟩
  have HF : Hid (∃ own' bw bd ws ds m1 m2, Inw own' w6 wb q bw bd ws ds ps m1 m2 none0 ∧ m1 ≤ m + 1 ∧ m2 ≤ m + 1 ∧ Moves own w own' w6) := by
    obtain ⟨own', hI6, hM6⟩ := HI.out.due HB5.out HR5.out (by have := HSZ.out; omega) hw6 hn6 hk6 hb6 k6
    exact ⟨own', bw, bd', ws, ds ++ ns, m1, m2 + 1, hI6, by have := HM.out.1; omega, by have := HM.out.2.1; omega, hM6⟩
  clear ho hl5 hw6 hn6 hk6 hb6 k6
  go_wp2
  go_ret
  exact ⟨rfl, HF.out⟩

end

end Go.Proofs.YtdgfjneapialdaaGreatDoor.S
