import Derived.Test.YtdgfjneapialdaaGreatDoorTg
namespace Go.Proofs.YtdgfjneapialdaaGreatDoor.S
open Go Go.RowKit Go.Maps

/-- Another's blocks, and those that were made since. -/
def CG (C : Nat → Prop) (w W : World) (b : Nat) : Prop := C b ∨ (w.heap.size ≤ b ∧ b < W.heap.size)
/-- What a write of the reference leaves. -/
def Wrote (C : Nat → Prop) (w w' : World) (rb : Nat) (lim born : Int) (sv : List Value) (past : List (List Ob)) (es : List (Int × Ob)) (l : List Ob) (so : Int) (X : Ob) : Prop :=
  (∃ pv' ev' nv', IsRef C w' rb lim born pv' ev' (sv ++ [nv']) (past ++ [takenL l so X]) (es ++ [(so, X)])) ∧ KeptC C w w'

section
variable {C : Nat → Prop} {w W w' : World} {rb : Nat} {lim born : Int} {pv ev : Value} {sv : List Value} {past : List (List Ob)} {es : List (Int × Ob)} {l : List Ob} {so : Int} {X : Ob}
theorem IsRef.cg (h : IsRef C w rb lim born pv ev sv past es) (k : Below w.heap.size w W) : IsRef (CG C w W) W rb lim born pv ev sv past es := by
  refine ⟨(h.below k).blk, (h.below k).op, (h.below k).oe, h.ls, (h.below k).st, ?_, ?_, ?_, ?_⟩
  · rintro (c | c)
    · exact h.c0 c
    · have := h.lt; omega
  · rintro b e (c | c)
    · exact h.c1 b e c
    · have := own_lt h.op e; omega
  · rintro b e (c | c)
    · exact h.c2 b e c
    · have := own_lt h.oe e; omega
  · rintro v hv b e (c | c)
    · exact h.c3 v hv b e c
    · have := h.slt v hv b e; omega
theorem cg_lt (hC : ∀ b, C b → b < w.heap.size) (k : Below w.heap.size w W) : ∀ b, CG C w W b → b < W.heap.size := by
  rintro b (c | c)
  · exact Nat.lt_of_lt_of_le (hC b c) k.size
  · exact c.2
theorem Wrote.back (h : Wrote (CG C w W) W w' rb lim born sv past es l so X) (k : Below w.heap.size w W) : Wrote C w w' rb lim born sv past es l so X := by
  obtain ⟨⟨p, e, n, hr⟩, hk⟩ := h
  exact ⟨⟨p, e, n, hr.more (fun b _ c => Or.inl c)⟩, (KeptC.of_below k rfl).trans (hk.sub (fun b c => Or.inl c))⟩
theorem Wrote.new (h : Wrote (CG C w W) W w' rb lim born sv past es l so X) {b : Nat} (h1 : w.heap.size ≤ b) (h2 : b < W.heap.size) : w'.heap[b]? = W.heap[b]? := h.2.block b (Or.inr ⟨h1, h2⟩) h2
/-- The answer is laid into its block. -/
theorem Wrote.out (h : Wrote (CG C w W) W w' rb lim born sv past es l so X) (k : Below w.heap.size w W) {N : Nat} (h1 : w.heap.size ≤ N) (h2 : N < W.heap.size) (hC : ∀ b, C b → b < w.heap.size) (y0 y1 y2 y3 y4 y5 y6 y7 y8 : Value) : Wrote C w (S.set9 w' N y0 y1 y2 y3 y4 y5 y6 y7 y8) rb lim born sv past es l so X := by
  obtain ⟨⟨p, e, n, hr⟩, hk⟩ := h
  obtain ⟨V, hV⟩ : ∃ V, V = S.set9 w' N y0 y1 y2 y3 y4 y5 y6 y7 y8 := ⟨_, rfl⟩
  have hne : ∀ b : Nat, b ≠ N → V.heap[b]? = w'.heap[b]? := fun b hb => by rw [hV]; exact set9_other _ _ y0 y1 y2 y3 y4 y5 y6 y7 y8 _ hb
  have hsz : V.heap.size = w'.heap.size := by rw [hV]; exact set9_size _ _ y0 y1 y2 y3 y4 y5 y6 y7 y8
  have hos : V.os = w'.os ∧ V.tape = w'.tape ∧ V.output = w'.output := by
    rw [hV]
    have hbl := set9_below (Below.refl N w') (N := N) (Nat.le_refl _) y0 y1 y2 y3 y4 y5 y6 y7 y8
    exact ⟨hbl.os, hbl.tape, hbl.output⟩
  rw [← hV]
  clear hV
  have hcg : CG C w W N := Or.inr ⟨h1, h2⟩
  have hr2 : IsRef (CG C w W) V rb lim born p e (sv ++ [n]) (past ++ [takenL l so X]) (es ++ [(so, X)]) :=
    hr.keepW (hne _ (fun e => hr.c0 (e ▸ hcg))) (fun b eb => hne b (fun e => hr.c1 b eb (e ▸ hcg))) (fun b eb => hne b (fun e => hr.c2 b eb (e ▸ hcg))) (fun v hv b eb => hne b (fun e => hr.c3 v hv b eb (e ▸ hcg)))
  refine ⟨⟨p, e, n, hr2.more (fun b _ c => Or.inl c)⟩, ((KeptC.of_below k rfl).trans (hk.sub (fun b c => Or.inl c))).trans ⟨hos.1, hos.2.1, hos.2.2, by omega, fun b c _ => hne b (by have := hC b c; omega)⟩⟩
end

section
variable {C : Nat → Prop} {w : World} {rb : Nat} {lim born : Int} {pv ev nv : Value} {sp sv : List Value} {pre past : List (List Ob)} {l : List Ob} {es : List (Int × Ob)}

set_option maxRecDepth 100000 in
set_option maxHeartbeats 1000000 in
theorem rmark_err (h : IsRef C w rb lim born pv ev sv past es) (hsv : sv = sp ++ [nv]) (hpa : past = pre ++ [l]) (hb : pre.length ≤ 600) (hl : l.length ≤ 10000) (hk : ∀ x ∈ l, 0 ≤ x.kind ∧ x.kind ≤ 255) (s : ByteArray) (er : Int) (her : (er != 0) = true) (hA : tgtA (decide (pre.length = 600)) l 1 s 0 0 = (Ob.zero, er)) :
    Calls Tryz.prog 60 #[.pointer (some ⟨rb, 0, none⟩), .string s] w fun e w' => e = .returned (.tuple #[.agg #[.int .u8 0, .string ⟨#[]⟩, .int .i64 0, .int .i64 0, .int .i64 0, .int .i64 0, .int .i64 0, .int .u8 0, .bool false], .int .i64 er]) ∧ Below w.heap.size w w' := by
  subst hsv hpa
  have hg := target_any (h.alloc (.cells #[.int .u8 0, .string ⟨#[]⟩, .int .i64 0, .int .i64 0, .int .i64 0, .int .i64 0, .int .i64 0, .int .u8 0, .bool false] 84)) hb hl hk 1 s (by omega) (by omega) 0 0
  rw [hA] at hg
  simp only [Ob.arr, Ob.zero] at hg
  clear h hl hk hA hb
  go_enter Tryz.func60, Tryz.ntmps60
  go_wp2_with fail
  refine hg.mono ?_
  rintro e w1 ⟨rfl, hb1⟩
  have hz := lt_of_back hb1
  obtain ⟨hcell, hfz⟩ := bcell hb1
  clear hg
  go_wp2
  refine bodyPost_ret (v := .tuple #[.agg #[.int .u8 0, .string ⟨#[]⟩, .int .i64 0, .int .i64 0, .int .i64 0, .int .i64 0, .int .i64 0, .int .u8 0, .bool false], .int .i64 er]) (by simp [results, Tryz.results60, go_sem, hcell, hz]) rfl ⟨rfl, ?_⟩
  rw [← set9_def]
  exact belowAl (set9_below (back9 hb1) (Nat.le_refl _) _ _ _ _ _ _ _ _ _) _

set_option maxRecDepth 100000 in
set_option maxHeartbeats 1000000 in
theorem rmark_same (h : IsRef C w rb lim born pv ev sv past es) (hsv : sv = sp ++ [nv]) (hpa : past = pre ++ [l]) (hb : pre.length ≤ 600) (hl : l.length ≤ 10000) (hk : ∀ x ∈ l, 0 ≤ x.kind ∧ x.kind ≤ 255) (s : ByteArray) (a0 : Int) (a1 : ByteArray) (a2 a3 a4 a5 a6 a7 : Int) (hA : tgtA (decide (pre.length = 600)) l 1 s 0 0 = (⟨a0, a1, a2, a3, a4, a5, a6, a7, true⟩, 0)) :
    Calls Tryz.prog 60 #[.pointer (some ⟨rb, 0, none⟩), .string s] w fun e w' => e = .returned (.tuple #[.agg #[.int .u8 a0, .string a1, .int .i64 a2, .int .i64 a3, .int .i64 a4, .int .i64 a5, .int .i64 a6, .int .u8 a7, .bool true], .int .i64 0]) ∧ Below w.heap.size w w' := by
  subst hsv hpa
  have hg := target_any (h.alloc (.cells #[.int .u8 0, .string ⟨#[]⟩, .int .i64 0, .int .i64 0, .int .i64 0, .int .i64 0, .int .i64 0, .int .u8 0, .bool false] 84)) hb hl hk 1 s (by omega) (by omega) 0 0
  rw [hA] at hg
  simp only [Ob.arr] at hg
  clear h hl hk hA hb
  go_enter Tryz.func60, Tryz.ntmps60
  go_wp2_with fail
  refine hg.mono ?_
  rintro e w1 ⟨rfl, hb1⟩
  have hz := lt_of_back hb1
  obtain ⟨hcell, hfz⟩ := bcell hb1
  clear hg
  go_wp2
  refine bodyPost_ret (v := .tuple #[.agg #[.int .u8 a0, .string a1, .int .i64 a2, .int .i64 a3, .int .i64 a4, .int .i64 a5, .int .i64 a6, .int .u8 a7, .bool true], .int .i64 0]) (by simp [results, Tryz.results60, go_sem, hcell, hz]) rfl ⟨rfl, ?_⟩
  rw [← set9_def]
  exact belowAl (set9_below (back9 hb1) (Nat.le_refl _) _ _ _ _ _ _ _ _ _) _

set_option maxRecDepth 100000 in
set_option maxHeartbeats 1000000 in
theorem rmark_write (h : IsRef C w rb lim born pv ev sv past es) (hsv : sv = sp ++ [nv]) (hpa : past = pre ++ [l]) (hC : ∀ b, C b → b < w.heap.size) (hb : pre.length ≤ 600) (hl : l.length ≤ 10000) (hes : es.length ≤ 10000) (hk : ∀ x ∈ l, 0 ≤ x.kind ∧ x.kind ≤ 255) (hnd : l.Pairwise fun a b => ¬ (a.kind = b.kind ∧ a.name = b.name)) (s : ByteArray) (a0 : Int) (a1 : ByteArray) (a2 a3 a4 a5 a6 a7 : Int) (hv6 : pre.length < 600) (hk0 : 0 ≤ a0) (hk1 : a0 ≤ 255) (hA : tgtA (decide (pre.length = 600)) l 1 s 0 0 = (⟨a0, a1, a2, a3, a4, a5, a6, a7, false⟩, 0)) :
    Calls Tryz.prog 60 #[.pointer (some ⟨rb, 0, none⟩), .string s] w fun e w' => e = .returned (.tuple #[.agg #[.int .u8 a0, .string a1, .int .i64 a2, .int .i64 ((pre.length : Int) + 1), .int .i64 a4, .int .i64 a5, .int .i64 a6, .int .u8 a7, .bool true], .int .i64 0]) ∧ Wrote C w w' rb lim born sv past es l 1 ⟨a0, a1, a2, ((pre.length : Int) + 1), a4, a5, a6, a7, true⟩ := by
  have HO : Hid (IsRef C w rb lim born pv ev sv past es) := h
  have HSV : Hid (sv = sp ++ [nv]) := hsv
  have HPA : Hid (past = pre ++ [l]) := hpa
  have HW : Hid (∀ b, C b → b < w.heap.size) := hC
  have HE : Hid (pre.length < 600 ∧ l.length ≤ 10000 ∧ es.length ≤ 10000 ∧ (∀ x ∈ l, 0 ≤ x.kind ∧ x.kind ≤ 255) ∧ l.Pairwise fun a b => ¬ (a.kind = b.kind ∧ a.name = b.name)) := ⟨hv6, hl, hes, hk, hnd⟩
  have hrb := h.lt
  have h2 := h
  rw [hsv, hpa] at h2
  have hg := target_any (h2.alloc (.cells #[.int .u8 0, .string ⟨#[]⟩, .int .i64 0, .int .i64 0, .int .i64 0, .int .i64 0, .int .i64 0, .int .u8 0, .bool false] 84)) hb hl hk 1 s (by omega) (by omega) 0 0
  rw [hA] at hg
  simp only [Ob.arr] at hg
  clear h h2 hl hk hA hb hsv hpa hC hes hnd
  go_enter Tryz.func60, Tryz.ntmps60
  go_wp2_with fail
  refine hg.mono ?_
  rintro e w1 ⟨rfl, hb1⟩
  have hz := lt_of_back hb1
  obtain ⟨hcell, hfz⟩ := bcell hb1
  clear hg
  have hB2 : Below w.heap.size w (w1.alloc (.cells #[.int .u8 a0, .string a1, .int .i64 a2, .int .i64 a3, .int .i64 a4, .int .i64 a5, .int .i64 a6, .int .u8 a7, .bool true] 84)) := belowAl (back9 hb1) _
  have hwr := write_any (HO.out.cg hB2) HSV.out HPA.out (cg_lt HW.out hB2) HE.out.1 HE.out.2.1 HE.out.2.2.1 HE.out.2.2.2.1 HE.out.2.2.2.2 1 a0 a1 a2 a3 a4 a5 a6 a7 true hk0 hk1
  have b6 : (w1.alloc (.cells #[.int .u8 a0, .string a1, .int .i64 a2, .int .i64 a3, .int .i64 a4, .int .i64 a5, .int .i64 a6, .int .u8 a7, .bool true] 84)).heap[w.heap.size]? = some (.cells #[.int .u8 0, .string ⟨#[]⟩, .int .i64 0, .int .i64 0, .int .i64 0, .int .i64 0, .int .i64 0, .int .u8 0, .bool false] 84 (0, 0)) := (Below.heap_alloc _ _ _ hz).trans ((hb1.block _ (by simp)).trans (alloc_last w _))
  have H6 : Hid _ := b6
  have HB2 : Hid _ := hB2
  have hsz2 : w.heap.size < (w1.alloc (.cells #[.int .u8 a0, .string a1, .int .i64 a2, .int .i64 a3, .int .i64 a4, .int .i64 a5, .int .i64 a6, .int .u8 a7, .bool true] 84)).heap.size := by simp; omega
  clear b6 hB2
  go_wp2_with fail
  refine hwr.mono ?_
  rintro e w3 ⟨rfl, hw3⟩
  have HW3 : Hid (Wrote (CG C w (w1.alloc (.cells #[.int .u8 a0, .string a1, .int .i64 a2, .int .i64 a3, .int .i64 a4, .int .i64 a5, .int .i64 a6, .int .u8 a7, .bool true] 84))) (w1.alloc (.cells #[.int .u8 a0, .string a1, .int .i64 a2, .int .i64 a3, .int .i64 a4, .int .i64 a5, .int .i64 a6, .int .u8 a7, .bool true] 84)) w3 rb lim born sv past es l 1 ⟨a0, a1, a2, ((pre.length : Int) + 1), a4, a5, a6, a7, true⟩) := hw3
  obtain ⟨⟨z0, z1, z2, z3, z4, z5, z6, z7, z8⟩, zf⟩ := nine ((HW3.out.new (Nat.le_refl _) hsz2).trans H6.out)
  have hz3 : w.heap.size < w3.heap.size := Nat.lt_of_lt_of_le hsz2 HW3.out.2.size
  clear hw3 hwr hcell hfz
  go_wp2
  refine bodyPost_ret (v := .tuple #[.agg #[.int .u8 a0, .string a1, .int .i64 a2, .int .i64 ((pre.length : Int) + 1), .int .i64 a4, .int .i64 a5, .int .i64 a6, .int .u8 a7, .bool true], .int .i64 0]) (by simp [results, Tryz.results60, go_sem, z0, z1, z2, z3, z4, z5, z6, z7, z8]) rfl ⟨rfl, ?_⟩
  rw [← set9_def]
  exact HW3.out.out HB2.out (Nat.le_refl _) hsz2 HW.out _ _ _ _ _ _ _ _ _

set_option maxRecDepth 100000 in
set_option maxHeartbeats 1000000 in
theorem rremove_err (h : IsRef C w rb lim born pv ev sv past es) (hsv : sv = sp ++ [nv]) (hpa : past = pre ++ [l]) (hb : pre.length ≤ 600) (hl : l.length ≤ 10000) (hk : ∀ x ∈ l, 0 ≤ x.kind ∧ x.kind ≤ 255) (kk : Int) (s : ByteArray) (ve : Int) (h0 : 0 ≤ kk) (h1 : kk ≤ 255) (er : Int) (her : (er != 0) = true) (hA : tgtA (decide (pre.length = 600)) l kk s 0 ve = (Ob.zero, er)) :
    Calls Tryz.prog 62 #[.pointer (some ⟨rb, 0, none⟩), .int .u8 kk, .string s, .int .i64 ve] w fun e w' => e = .returned (.tuple #[.agg #[.int .u8 0, .string ⟨#[]⟩, .int .i64 0, .int .i64 0, .int .i64 0, .int .i64 0, .int .i64 0, .int .u8 0, .bool false], .int .i64 er]) ∧ Below w.heap.size w w' := by
  subst hsv hpa
  have hg := target_any (h.alloc (.cells #[.int .u8 0, .string ⟨#[]⟩, .int .i64 0, .int .i64 0, .int .i64 0, .int .i64 0, .int .i64 0, .int .u8 0, .bool false] 84)) hb hl hk kk s (by omega) (by omega) 0 ve
  rw [hA] at hg
  simp only [Ob.arr, Ob.zero] at hg
  clear h hl hk hA hb
  go_enter Tryz.func62, Tryz.ntmps62
  go_wp2_with fail
  refine hg.mono ?_
  rintro e w1 ⟨rfl, hb1⟩
  have hz := lt_of_back hb1
  obtain ⟨hcell, hfz⟩ := bcell hb1
  clear hg
  go_wp2
  refine bodyPost_ret (v := .tuple #[.agg #[.int .u8 0, .string ⟨#[]⟩, .int .i64 0, .int .i64 0, .int .i64 0, .int .i64 0, .int .i64 0, .int .u8 0, .bool false], .int .i64 er]) (by simp [results, Tryz.results62, go_sem, hcell, hz]) rfl ⟨rfl, ?_⟩
  rw [← set9_def]
  exact belowAl (set9_below (back9 hb1) (Nat.le_refl _) _ _ _ _ _ _ _ _ _) _

set_option maxRecDepth 100000 in
set_option maxHeartbeats 1000000 in
theorem rremove_write (h : IsRef C w rb lim born pv ev sv past es) (hsv : sv = sp ++ [nv]) (hpa : past = pre ++ [l]) (hC : ∀ b, C b → b < w.heap.size) (hb : pre.length ≤ 600) (hl : l.length ≤ 10000) (hes : es.length ≤ 10000) (hk : ∀ x ∈ l, 0 ≤ x.kind ∧ x.kind ≤ 255) (hnd : l.Pairwise fun a b => ¬ (a.kind = b.kind ∧ a.name = b.name)) (kk : Int) (s : ByteArray) (ve : Int) (h0 : 0 ≤ kk) (h1 : kk ≤ 255) (a0 : Int) (a1 : ByteArray) (a2 a3 a4 a5 a6 a7 : Int) (a8 : Bool) (hv6 : pre.length < 600) (hk0 : 0 ≤ a0) (hk1 : a0 ≤ 255) (hA : tgtA (decide (pre.length = 600)) l kk s 0 ve = (⟨a0, a1, a2, a3, a4, a5, a6, a7, a8⟩, 0)) :
    Calls Tryz.prog 62 #[.pointer (some ⟨rb, 0, none⟩), .int .u8 kk, .string s, .int .i64 ve] w fun e w' => e = .returned (.tuple #[.agg #[.int .u8 a0, .string a1, .int .i64 a2, .int .i64 ((pre.length : Int) + 1), .int .i64 a4, .int .i64 a5, .int .i64 a6, .int .u8 a7, .bool a8], .int .i64 0]) ∧ Wrote C w w' rb lim born sv past es l 2 ⟨a0, a1, a2, ((pre.length : Int) + 1), a4, a5, a6, a7, a8⟩ := by
  have HO : Hid (IsRef C w rb lim born pv ev sv past es) := h
  have HSV : Hid (sv = sp ++ [nv]) := hsv
  have HPA : Hid (past = pre ++ [l]) := hpa
  have HW : Hid (∀ b, C b → b < w.heap.size) := hC
  have HE : Hid (pre.length < 600 ∧ l.length ≤ 10000 ∧ es.length ≤ 10000 ∧ (∀ x ∈ l, 0 ≤ x.kind ∧ x.kind ≤ 255) ∧ l.Pairwise fun a b => ¬ (a.kind = b.kind ∧ a.name = b.name)) := ⟨hv6, hl, hes, hk, hnd⟩
  have hrb := h.lt
  have h2 := h
  rw [hsv, hpa] at h2
  have hg := target_any (h2.alloc (.cells #[.int .u8 0, .string ⟨#[]⟩, .int .i64 0, .int .i64 0, .int .i64 0, .int .i64 0, .int .i64 0, .int .u8 0, .bool false] 84)) hb hl hk kk s h0 h1 0 ve
  rw [hA] at hg
  simp only [Ob.arr] at hg
  clear h h2 hl hk hA hb hsv hpa hC hes hnd
  go_enter Tryz.func62, Tryz.ntmps62
  go_wp2_with fail
  refine hg.mono ?_
  rintro e w1 ⟨rfl, hb1⟩
  have hz := lt_of_back hb1
  obtain ⟨hcell, hfz⟩ := bcell hb1
  clear hg
  have hB2 : Below w.heap.size w (w1.alloc (.cells #[.int .u8 a0, .string a1, .int .i64 a2, .int .i64 a3, .int .i64 a4, .int .i64 a5, .int .i64 a6, .int .u8 a7, .bool a8] 84)) := belowAl (back9 hb1) _
  have hwr := write_any (HO.out.cg hB2) HSV.out HPA.out (cg_lt HW.out hB2) HE.out.1 HE.out.2.1 HE.out.2.2.1 HE.out.2.2.2.1 HE.out.2.2.2.2 2 a0 a1 a2 a3 a4 a5 a6 a7 a8 hk0 hk1
  have b6 : (w1.alloc (.cells #[.int .u8 a0, .string a1, .int .i64 a2, .int .i64 a3, .int .i64 a4, .int .i64 a5, .int .i64 a6, .int .u8 a7, .bool a8] 84)).heap[w.heap.size]? = some (.cells #[.int .u8 0, .string ⟨#[]⟩, .int .i64 0, .int .i64 0, .int .i64 0, .int .i64 0, .int .i64 0, .int .u8 0, .bool false] 84 (0, 0)) := (Below.heap_alloc _ _ _ hz).trans ((hb1.block _ (by simp)).trans (alloc_last w _))
  have H6 : Hid _ := b6
  have HB2 : Hid _ := hB2
  have hsz2 : w.heap.size < (w1.alloc (.cells #[.int .u8 a0, .string a1, .int .i64 a2, .int .i64 a3, .int .i64 a4, .int .i64 a5, .int .i64 a6, .int .u8 a7, .bool a8] 84)).heap.size := by simp; omega
  clear b6 hB2
  go_wp2_with fail
  refine hwr.mono ?_
  rintro e w3 ⟨rfl, hw3⟩
  have HW3 : Hid (Wrote (CG C w (w1.alloc (.cells #[.int .u8 a0, .string a1, .int .i64 a2, .int .i64 a3, .int .i64 a4, .int .i64 a5, .int .i64 a6, .int .u8 a7, .bool a8] 84))) (w1.alloc (.cells #[.int .u8 a0, .string a1, .int .i64 a2, .int .i64 a3, .int .i64 a4, .int .i64 a5, .int .i64 a6, .int .u8 a7, .bool a8] 84)) w3 rb lim born sv past es l 2 ⟨a0, a1, a2, ((pre.length : Int) + 1), a4, a5, a6, a7, a8⟩) := hw3
  obtain ⟨⟨z0, z1, z2, z3, z4, z5, z6, z7, z8⟩, zf⟩ := nine ((HW3.out.new (Nat.le_refl _) hsz2).trans H6.out)
  have hz3 : w.heap.size < w3.heap.size := Nat.lt_of_lt_of_le hsz2 HW3.out.2.size
  clear hw3 hwr hcell hfz
  go_wp2
  refine bodyPost_ret (v := .tuple #[.agg #[.int .u8 a0, .string a1, .int .i64 a2, .int .i64 ((pre.length : Int) + 1), .int .i64 a4, .int .i64 a5, .int .i64 a6, .int .u8 a7, .bool a8], .int .i64 0]) (by simp [results, Tryz.results62, go_sem, z0, z1, z2, z3, z4, z5, z6, z7, z8]) rfl ⟨rfl, ?_⟩
  rw [← set9_def]
  exact HW3.out.out HB2.out (Nat.le_refl _) hsz2 HW.out _ _ _ _ _ _ _ _ _

end

end Go.Proofs.YtdgfjneapialdaaGreatDoor.S

namespace Go.Proofs.YtdgfjneapialdaaGreatDoor.S
open Go Go.RowKit Go.Maps

set_option maxRecDepth 100000 in
set_option maxHeartbeats 400000 in
theorem at_same (w : World) (base : Nat) (v : Value) (l : List Ob) (kk : Int) (nm : ByteArray) (hrow : w.ownsRow base 84 9 v l.length (flatO l)) (hl : l.length ≤ 10000) (hkb : ∀ x ∈ l, 0 ≤ x.kind ∧ x.kind ≤ 255) :
    Calls Tryz.prog 117 #[v, .int .i64 kk, .string nm] w fun e w' => e = .returned (.int .i64 (atL kk nm l)) ∧ w' = w := by
  obtain ⟨ad, cap, rfl, had⟩ := row_form hrow
  have Hrow : Hid (w.ownsRow base 84 9 (.slice ad l.length cap) l.length (flatO l)) := hrow
  have Hkb : Hid (∀ x ∈ l, 0 ≤ x.kind ∧ x.kind ≤ 255) := hkb
  clear hrow hkb
  go_enter Tryz.func117, Tryz.ntmps117
  go_wp2
  go_loopw [7] (fun i wr => ∃ k : Nat, k ≤ l.length ∧ i = .int .i64 k ∧ Hid (∀ x ∈ l.take k, isAt kk nm x = false) ∧ Hid (wr = w)) (fun i _ => l.length - (intOf i).toNat)
  case atStart => exact ⟨0, Nat.zero_le _, rfl, (fun x hx => by simp at hx), rfl⟩
  case round =>
    obtain ⟨k, hk, rfl, Hn, Hbw⟩ := hrel
    by_cases hlt : k < l.length
    · obtain ⟨g, rfl, hgb, hgs⟩ := had (by omega)
      have hc := row_cells (wr := wr) Hrow.out (by rw [Hbw.out]; exact Below.refl _ _) hlt
      have hx0 := Hkb.out l[k] (List.getElem_mem hlt)
      obtain ⟨x, hx⟩ : ∃ x, x = l[k] := ⟨_, rfl⟩
      rw [← hx] at hc hx0
      have q0 : wr.cell? ⟨g, k * 9, none⟩ = some (.int .u8 x.kind) := hc 0 _ (by omega) rfl
      have q1 : wr.cell? ⟨g, k * 9 + 1, none⟩ = some (.string x.name) := hc 1 _ (by omega) rfl
      have HX : Hid (x = l[k]) := hx
      have HS : Hid (isAt kk nm x = false → ∀ y ∈ l.take (k + 1), isAt kk nm y = false) := by
        intro he y hy
        rw [List.take_succ_eq_append_getElem hlt, List.mem_append, List.mem_singleton, ← hx] at hy
        rcases hy with hy | rfl
        · exact Hn.out y hy
        · exact he
      clear hc hx
      by_cases hkd : x.kind = kk
      · have hb1 : (x.kind == kk) = true := by simp [hkd]
        by_cases hnm : x.name.toList = nm.toList
        · have hb2 : (x.name.toList == nm.toList) = true := by simp [hnm]
          have hat : Hid (isAt kk nm x = true) := by unfold Hid isAt; rw [hb1, hb2]; rfl
          clear hkd hnm
          go_wp2
          go_ret
          exact ⟨ret_int (atL_hit hlt Hn.out (by rw [← HX.out]; exact hat.out)).symm, Hbw.out⟩
        · have hb2 : (x.name.toList == nm.toList) = false := by simp [hnm]
          have hat : Hid (isAt kk nm x = false) := by unfold Hid isAt; rw [hb1, hb2]; rfl
          clear hkd hnm
          go_wp2
          go_roundw
          case rel => exact ⟨k + 1, by omega, by simp, HS.out hat.out, Hbw⟩
          case measure => simp [intOf]; omega
      · have hb1 : (x.kind == kk) = false := by simp [hkd]
        have hat : Hid (isAt kk nm x = false) := by unfold Hid isAt; rw [hb1]; rfl
        clear hkd
        go_wp2
        go_roundw
        case rel => exact ⟨k + 1, by omega, by simp, HS.out hat.out, Hbw⟩
        case measure => simp [intOf]; omega
    · have hkl : k = l.length := by omega
      subst hkl
      have hlt2 : ¬ ((l.length : Int) < (l.length : Int)) := by omega
      go_wp2
      go_ret
      exact ⟨ret_int (atL_miss (fun x hx => Hn.out x (by rw [List.take_length]; exact hx))).symm, Hbw.out⟩


section
variable {C : Nat → Prop} {w W w' : World} {rb : Nat} {lim born : Int} {pv ev : Value} {sv : List Value} {past : List (List Ob)} {es : List (Int × Ob)} {l : List Ob} {so : Int} {X : Ob}
theorem IsRef.setBorn (h : IsRef C w rb lim born pv ev sv past es) (x : Int) : IsRef C (w.setCell ⟨rb, 3, none⟩ (.int .i64 x)) rb lim x pv ev sv past es := by
  have ne : ∀ {b : Nat} {t : TypeId} {cur : Array Value}, w.heap[b]? = some (.cells cur t (0, 0)) → t ≠ 151 → (w.setCell ⟨rb, 3, none⟩ (.int .i64 x)).heap[b]? = w.heap[b]? := fun hc ht => Below.heap_setCell _ _ _ _ (ne_typ hc h.blk ht)
  refine ⟨by rw [heap_setCell_at h.blk]; simp, own_keep h.op (fun b e => by obtain ⟨cur, hc⟩ := own_typ h.op b e; exact ne hc (by decide)), own_keep h.oe (fun b e => by obtain ⟨cur, hc⟩ := own_typ h.oe b e; exact ne hc (by decide)), h.ls, fun i hi hi' => own_keep (h.st i hi hi') (fun b e => by obtain ⟨cur, hc⟩ := own_typ (h.st i hi hi') b e; exact ne hc (by decide)), h.c0, h.c1, h.c2, h.c3⟩
theorem IsRef.cg2 {born' : Int} (h : IsRef C w rb lim born pv ev sv past es) (h2 : IsRef C W rb lim born' pv ev sv past es) : IsRef (CG C w W) W rb lim born' pv ev sv past es := by
  refine ⟨h2.blk, h2.op, h2.oe, h2.ls, h2.st, ?_, ?_, ?_, ?_⟩
  · rintro (c | c)
    · exact h.c0 c
    · have := h.lt; omega
  · rintro b e (c | c)
    · exact h.c1 b e c
    · have := own_lt h.op e; omega
  · rintro b e (c | c)
    · exact h.c2 b e c
    · have := own_lt h.oe e; omega
  · rintro v hv b e (c | c)
    · exact h.c3 v hv b e c
    · have := h.slt v hv b e; omega
theorem cg_lt2 (hC : ∀ b, C b → b < w.heap.size) (k : w.heap.size ≤ W.heap.size) : ∀ b, CG C w W b → b < W.heap.size := by
  rintro b (c | c)
  · exact Nat.lt_of_lt_of_le (hC b c) k
  · exact c.2
/-- The answer is laid into its block; the store itself had turned ahead of the write. -/
theorem Wrote.out2 (h : Wrote (CG C w W) W w' rb lim born sv past es l so X) (k : KeptC C w W) {N : Nat} (h1 : w.heap.size ≤ N) (h2 : N < W.heap.size) (hC : ∀ b, C b → b < w.heap.size) (y0 y1 y2 y3 y4 y5 y6 y7 y8 : Value) : Wrote C w (S.set9 w' N y0 y1 y2 y3 y4 y5 y6 y7 y8) rb lim born sv past es l so X := by
  obtain ⟨⟨p, e, n, hr⟩, hk⟩ := h
  obtain ⟨V, hV⟩ : ∃ V, V = S.set9 w' N y0 y1 y2 y3 y4 y5 y6 y7 y8 := ⟨_, rfl⟩
  have hne : ∀ b : Nat, b ≠ N → V.heap[b]? = w'.heap[b]? := fun b hb => by rw [hV]; exact set9_other _ _ y0 y1 y2 y3 y4 y5 y6 y7 y8 _ hb
  have hsz : V.heap.size = w'.heap.size := by rw [hV]; exact set9_size _ _ y0 y1 y2 y3 y4 y5 y6 y7 y8
  have hos : V.os = w'.os ∧ V.tape = w'.tape ∧ V.output = w'.output := by
    rw [hV]
    have hbl := set9_below (Below.refl N w') (N := N) (Nat.le_refl _) y0 y1 y2 y3 y4 y5 y6 y7 y8
    exact ⟨hbl.os, hbl.tape, hbl.output⟩
  rw [← hV]
  clear hV
  have hcg : CG C w W N := Or.inr ⟨h1, h2⟩
  have hr2 : IsRef (CG C w W) V rb lim born p e (sv ++ [n]) (past ++ [takenL l so X]) (es ++ [(so, X)]) :=
    hr.keepW (hne _ (fun e => hr.c0 (e ▸ hcg))) (fun b eb => hne b (fun e => hr.c1 b eb (e ▸ hcg))) (fun b eb => hne b (fun e => hr.c2 b eb (e ▸ hcg))) (fun v hv b eb => hne b (fun e => hr.c3 v hv b eb (e ▸ hcg)))
  refine ⟨⟨p, e, n, hr2.more (fun b _ c => Or.inl c)⟩, (k.trans (hk.sub (fun b c => Or.inl c))).trans ⟨hos.1, hos.2.1, hos.2.2, by omega, fun b c _ => hne b (by have := hC b c; omega)⟩⟩
end

set_option maxRecDepth 100000 in
set_option maxHeartbeats 1000000 in
theorem rcr_bad0a  (s : ByteArray) (hs : s.size ≤ maxLen) (u v r t ow ph : Int) (g : Bool) (w : World) (rb : Nat) (hn : nameB s = false) :
    Calls Tryz.prog 51 #[.pointer (some ⟨rb, 0, none⟩), .agg #[.int .u8 0, .string s, .int .i64 u, .int .i64 v, .int .i64 r, .int .i64 t, .int .i64 ow, .int .u8 ph, .bool g]] w fun e w' => e = .returned (.tuple #[.agg #[.int .u8 0, .string ⟨#[]⟩, .int .i64 0, .int .i64 0, .int .i64 0, .int .i64 0, .int .i64 0, .int .u8 0, .bool false], .int .i64 1]) ∧ Below w.heap.size w w' := by
  have hcl := fun W => letters_any s W hs
  have hcn := fun W => numbers_any (0) s u v r t ow ph g W
  simp only [hn] at hcl
  generalize countsB r t = mm at hcn
  clear hs
  go_enter Tryz.func51, Tryz.ntmps51
  go_wp2_with fail
  refine (hcl _).mono ?_
  rintro e w1 ⟨rfl, rfl⟩
  go_wp2_with fail
  refine (hcn _).mono ?_
  rintro e w1 ⟨rfl, hb⟩
  have hz := lt_of_back2 hb
  obtain ⟨⟨y0, y1, y2, y3, y4, y5, y6, y7, y8⟩, yf⟩ := nine ((hb.block w.heap.size (by simp; omega)).trans (alloc_last' w _ _))
  obtain ⟨⟨z0, z1, z2, z3, z4, z5, z6, z7, z8⟩, zf⟩ := nine ((hb.block (w.heap.size + 1) (by simp)).trans (alloc_last2 w _ _))
  clear hcl hcn
  go_wp2
  refine bodyPost_ret (v := .tuple #[.agg #[.int .u8 0, .string ⟨#[]⟩, .int .i64 0, .int .i64 0, .int .i64 0, .int .i64 0, .int .i64 0, .int .u8 0, .bool false], .int .i64 1]) (by simp [results, Tryz.results51, go_sem, z0, z1, z2, z3, z4, z5, z6, z7, z8]) rfl ⟨rfl, ?_⟩
  rw [← set9_def]
  exact set9_below (N := w.heap.size + 1) (belowUp (belowAl (belowAl (Below.refl _ _) _) _) hb) (by omega) _ _ _ _ _ _ _ _ _

set_option maxRecDepth 100000 in
set_option maxHeartbeats 1000000 in
theorem rcr_bad0b  (s : ByteArray) (hs : s.size ≤ maxLen) (u v r t ow ph : Int) (g : Bool) (w : World) (rb : Nat) (hn : nameB s = true) (hm : countsB r t = false) :
    Calls Tryz.prog 51 #[.pointer (some ⟨rb, 0, none⟩), .agg #[.int .u8 0, .string s, .int .i64 u, .int .i64 v, .int .i64 r, .int .i64 t, .int .i64 ow, .int .u8 ph, .bool g]] w fun e w' => e = .returned (.tuple #[.agg #[.int .u8 0, .string ⟨#[]⟩, .int .i64 0, .int .i64 0, .int .i64 0, .int .i64 0, .int .i64 0, .int .u8 0, .bool false], .int .i64 1]) ∧ Below w.heap.size w w' := by
  have hcl := fun W => letters_any s W hs
  have hcn := fun W => numbers_any (0) s u v r t ow ph g W
  simp only [hn] at hcl
  simp only [hm] at hcn
  clear hs
  go_enter Tryz.func51, Tryz.ntmps51
  go_wp2_with fail
  refine (hcl _).mono ?_
  rintro e w1 ⟨rfl, rfl⟩
  go_wp2_with fail
  refine (hcn _).mono ?_
  rintro e w1 ⟨rfl, hb⟩
  have hz := lt_of_back2 hb
  obtain ⟨⟨y0, y1, y2, y3, y4, y5, y6, y7, y8⟩, yf⟩ := nine ((hb.block w.heap.size (by simp; omega)).trans (alloc_last' w _ _))
  obtain ⟨⟨z0, z1, z2, z3, z4, z5, z6, z7, z8⟩, zf⟩ := nine ((hb.block (w.heap.size + 1) (by simp)).trans (alloc_last2 w _ _))
  clear hcl hcn
  go_wp2
  refine bodyPost_ret (v := .tuple #[.agg #[.int .u8 0, .string ⟨#[]⟩, .int .i64 0, .int .i64 0, .int .i64 0, .int .i64 0, .int .i64 0, .int .u8 0, .bool false], .int .i64 1]) (by simp [results, Tryz.results51, go_sem, z0, z1, z2, z3, z4, z5, z6, z7, z8]) rfl ⟨rfl, ?_⟩
  rw [← set9_def]
  exact set9_below (N := w.heap.size + 1) (belowUp (belowAl (belowAl (Below.refl _ _) _) _) hb) (by omega) _ _ _ _ _ _ _ _ _

set_option maxRecDepth 100000 in
set_option maxHeartbeats 1000000 in
theorem rcr_bad0c  (s : ByteArray) (hs : s.size ≤ maxLen) (u v r t ow ph : Int) (g : Bool) (w : World) (rb : Nat) (hn : nameB s = true) (hm : countsB r t = true) (ho : (ow == 0) = false) :
    Calls Tryz.prog 51 #[.pointer (some ⟨rb, 0, none⟩), .agg #[.int .u8 0, .string s, .int .i64 u, .int .i64 v, .int .i64 r, .int .i64 t, .int .i64 ow, .int .u8 ph, .bool g]] w fun e w' => e = .returned (.tuple #[.agg #[.int .u8 0, .string ⟨#[]⟩, .int .i64 0, .int .i64 0, .int .i64 0, .int .i64 0, .int .i64 0, .int .u8 0, .bool false], .int .i64 1]) ∧ Below w.heap.size w w' := by
  have hcl := fun W => letters_any s W hs
  have hcn := fun W => numbers_any (0) s u v r t ow ph g W
  simp only [hn] at hcl
  simp only [hm] at hcn
  clear hs
  go_enter Tryz.func51, Tryz.ntmps51
  go_wp2_with fail
  refine (hcl _).mono ?_
  rintro e w1 ⟨rfl, rfl⟩
  go_wp2_with fail
  refine (hcn _).mono ?_
  rintro e w1 ⟨rfl, hb⟩
  have hz := lt_of_back2 hb
  obtain ⟨⟨y0, y1, y2, y3, y4, y5, y6, y7, y8⟩, yf⟩ := nine ((hb.block w.heap.size (by simp; omega)).trans (alloc_last' w _ _))
  obtain ⟨⟨z0, z1, z2, z3, z4, z5, z6, z7, z8⟩, zf⟩ := nine ((hb.block (w.heap.size + 1) (by simp)).trans (alloc_last2 w _ _))
  clear hcl hcn
  go_wp2
  refine bodyPost_ret (v := .tuple #[.agg #[.int .u8 0, .string ⟨#[]⟩, .int .i64 0, .int .i64 0, .int .i64 0, .int .i64 0, .int .i64 0, .int .u8 0, .bool false], .int .i64 1]) (by simp [results, Tryz.results51, go_sem, z0, z1, z2, z3, z4, z5, z6, z7, z8]) rfl ⟨rfl, ?_⟩
  rw [← set9_def]
  exact set9_below (N := w.heap.size + 1) (belowUp (belowAl (belowAl (Below.refl _ _) _) _) hb) (by omega) _ _ _ _ _ _ _ _ _

set_option maxRecDepth 100000 in
set_option maxHeartbeats 1000000 in
theorem rcr_bad0d  (s : ByteArray) (hs : s.size ≤ maxLen) (u v r t ow ph : Int) (g : Bool) (w : World) (rb : Nat) (hn : nameB s = true) (hm : countsB r t = true) (ho : (ow == 0) = true) (hp : (ph == 0) = false) :
    Calls Tryz.prog 51 #[.pointer (some ⟨rb, 0, none⟩), .agg #[.int .u8 0, .string s, .int .i64 u, .int .i64 v, .int .i64 r, .int .i64 t, .int .i64 ow, .int .u8 ph, .bool g]] w fun e w' => e = .returned (.tuple #[.agg #[.int .u8 0, .string ⟨#[]⟩, .int .i64 0, .int .i64 0, .int .i64 0, .int .i64 0, .int .i64 0, .int .u8 0, .bool false], .int .i64 1]) ∧ Below w.heap.size w w' := by
  have hcl := fun W => letters_any s W hs
  have hcn := fun W => numbers_any (0) s u v r t ow ph g W
  simp only [hn] at hcl
  simp only [hm] at hcn
  clear hs
  go_enter Tryz.func51, Tryz.ntmps51
  go_wp2_with fail
  refine (hcl _).mono ?_
  rintro e w1 ⟨rfl, rfl⟩
  go_wp2_with fail
  refine (hcn _).mono ?_
  rintro e w1 ⟨rfl, hb⟩
  have hz := lt_of_back2 hb
  obtain ⟨⟨y0, y1, y2, y3, y4, y5, y6, y7, y8⟩, yf⟩ := nine ((hb.block w.heap.size (by simp; omega)).trans (alloc_last' w _ _))
  obtain ⟨⟨z0, z1, z2, z3, z4, z5, z6, z7, z8⟩, zf⟩ := nine ((hb.block (w.heap.size + 1) (by simp)).trans (alloc_last2 w _ _))
  clear hcl hcn
  go_wp2
  refine bodyPost_ret (v := .tuple #[.agg #[.int .u8 0, .string ⟨#[]⟩, .int .i64 0, .int .i64 0, .int .i64 0, .int .i64 0, .int .i64 0, .int .u8 0, .bool false], .int .i64 1]) (by simp [results, Tryz.results51, go_sem, z0, z1, z2, z3, z4, z5, z6, z7, z8]) rfl ⟨rfl, ?_⟩
  rw [← set9_def]
  exact set9_below (N := w.heap.size + 1) (belowUp (belowAl (belowAl (Below.refl _ _) _) _) hb) (by omega) _ _ _ _ _ _ _ _ _

set_option maxRecDepth 100000 in
set_option maxHeartbeats 1000000 in
theorem rcr_bad1a  (s : ByteArray) (hs : s.size ≤ maxLen) (u v r t ow ph : Int) (g : Bool) (w : World) (rb : Nat) (he : s.toList.isEmpty = false) :
    Calls Tryz.prog 51 #[.pointer (some ⟨rb, 0, none⟩), .agg #[.int .u8 1, .string s, .int .i64 u, .int .i64 v, .int .i64 r, .int .i64 t, .int .i64 ow, .int .u8 ph, .bool g]] w fun e w' => e = .returned (.tuple #[.agg #[.int .u8 0, .string ⟨#[]⟩, .int .i64 0, .int .i64 0, .int .i64 0, .int .i64 0, .int .i64 0, .int .u8 0, .bool false], .int .i64 1]) ∧ Below w.heap.size w w' := by
  have hcl := fun W => letters_any s W hs
  have hcn := fun W => numbers_any (1) s u v r t ow ph g W
  generalize nameB s = nn at hcl
  generalize countsB r t = mm at hcn
  clear hs
  go_enter Tryz.func51, Tryz.ntmps51
  go_wp2_with fail
  refine (hcl _).mono ?_
  rintro e w1 ⟨rfl, rfl⟩
  go_wp2_with fail
  refine (hcn _).mono ?_
  rintro e w1 ⟨rfl, hb⟩
  have hz := lt_of_back2 hb
  obtain ⟨⟨y0, y1, y2, y3, y4, y5, y6, y7, y8⟩, yf⟩ := nine ((hb.block w.heap.size (by simp; omega)).trans (alloc_last' w _ _))
  obtain ⟨⟨z0, z1, z2, z3, z4, z5, z6, z7, z8⟩, zf⟩ := nine ((hb.block (w.heap.size + 1) (by simp)).trans (alloc_last2 w _ _))
  clear hcl hcn
  go_wp2
  refine bodyPost_ret (v := .tuple #[.agg #[.int .u8 0, .string ⟨#[]⟩, .int .i64 0, .int .i64 0, .int .i64 0, .int .i64 0, .int .i64 0, .int .u8 0, .bool false], .int .i64 1]) (by simp [results, Tryz.results51, go_sem, z0, z1, z2, z3, z4, z5, z6, z7, z8]) rfl ⟨rfl, ?_⟩
  rw [← set9_def]
  exact set9_below (N := w.heap.size + 1) (belowUp (belowAl (belowAl (Below.refl _ _) _) _) hb) (by omega) _ _ _ _ _ _ _ _ _

set_option maxRecDepth 100000 in
set_option maxHeartbeats 1000000 in
theorem rcr_bad1b  (s : ByteArray) (hs : s.size ≤ maxLen) (u v r t ow ph : Int) (g : Bool) (w : World) (rb : Nat) (he : s.toList.isEmpty = true) (ho : decide (ow > 0) = false) :
    Calls Tryz.prog 51 #[.pointer (some ⟨rb, 0, none⟩), .agg #[.int .u8 1, .string s, .int .i64 u, .int .i64 v, .int .i64 r, .int .i64 t, .int .i64 ow, .int .u8 ph, .bool g]] w fun e w' => e = .returned (.tuple #[.agg #[.int .u8 0, .string ⟨#[]⟩, .int .i64 0, .int .i64 0, .int .i64 0, .int .i64 0, .int .i64 0, .int .u8 0, .bool false], .int .i64 1]) ∧ Below w.heap.size w w' := by
  have hcl := fun W => letters_any s W hs
  have hcn := fun W => numbers_any (1) s u v r t ow ph g W
  generalize nameB s = nn at hcl
  generalize countsB r t = mm at hcn
  clear hs
  go_enter Tryz.func51, Tryz.ntmps51
  go_wp2_with fail
  refine (hcl _).mono ?_
  rintro e w1 ⟨rfl, rfl⟩
  go_wp2_with fail
  refine (hcn _).mono ?_
  rintro e w1 ⟨rfl, hb⟩
  have hz := lt_of_back2 hb
  obtain ⟨⟨y0, y1, y2, y3, y4, y5, y6, y7, y8⟩, yf⟩ := nine ((hb.block w.heap.size (by simp; omega)).trans (alloc_last' w _ _))
  obtain ⟨⟨z0, z1, z2, z3, z4, z5, z6, z7, z8⟩, zf⟩ := nine ((hb.block (w.heap.size + 1) (by simp)).trans (alloc_last2 w _ _))
  clear hcl hcn
  go_wp2
  refine bodyPost_ret (v := .tuple #[.agg #[.int .u8 0, .string ⟨#[]⟩, .int .i64 0, .int .i64 0, .int .i64 0, .int .i64 0, .int .i64 0, .int .u8 0, .bool false], .int .i64 1]) (by simp [results, Tryz.results51, go_sem, z0, z1, z2, z3, z4, z5, z6, z7, z8]) rfl ⟨rfl, ?_⟩
  rw [← set9_def]
  exact set9_below (N := w.heap.size + 1) (belowUp (belowAl (belowAl (Below.refl _ _) _) _) hb) (by omega) _ _ _ _ _ _ _ _ _

set_option maxRecDepth 100000 in
set_option maxHeartbeats 1000000 in
theorem rcr_bad1c  (s : ByteArray) (hs : s.size ≤ maxLen) (u v r t ow ph : Int) (g : Bool) (w : World) (rb : Nat) (he : s.toList.isEmpty = true) (ho : decide (ow > 0) = true) (hp : decide (ph < 3) = false) :
    Calls Tryz.prog 51 #[.pointer (some ⟨rb, 0, none⟩), .agg #[.int .u8 1, .string s, .int .i64 u, .int .i64 v, .int .i64 r, .int .i64 t, .int .i64 ow, .int .u8 ph, .bool g]] w fun e w' => e = .returned (.tuple #[.agg #[.int .u8 0, .string ⟨#[]⟩, .int .i64 0, .int .i64 0, .int .i64 0, .int .i64 0, .int .i64 0, .int .u8 0, .bool false], .int .i64 1]) ∧ Below w.heap.size w w' := by
  have hcl := fun W => letters_any s W hs
  have hcn := fun W => numbers_any (1) s u v r t ow ph g W
  generalize nameB s = nn at hcl
  generalize countsB r t = mm at hcn
  clear hs
  go_enter Tryz.func51, Tryz.ntmps51
  go_wp2_with fail
  refine (hcl _).mono ?_
  rintro e w1 ⟨rfl, rfl⟩
  go_wp2_with fail
  refine (hcn _).mono ?_
  rintro e w1 ⟨rfl, hb⟩
  have hz := lt_of_back2 hb
  obtain ⟨⟨y0, y1, y2, y3, y4, y5, y6, y7, y8⟩, yf⟩ := nine ((hb.block w.heap.size (by simp; omega)).trans (alloc_last' w _ _))
  obtain ⟨⟨z0, z1, z2, z3, z4, z5, z6, z7, z8⟩, zf⟩ := nine ((hb.block (w.heap.size + 1) (by simp)).trans (alloc_last2 w _ _))
  clear hcl hcn
  go_wp2
  refine bodyPost_ret (v := .tuple #[.agg #[.int .u8 0, .string ⟨#[]⟩, .int .i64 0, .int .i64 0, .int .i64 0, .int .i64 0, .int .i64 0, .int .u8 0, .bool false], .int .i64 1]) (by simp [results, Tryz.results51, go_sem, z0, z1, z2, z3, z4, z5, z6, z7, z8]) rfl ⟨rfl, ?_⟩
  rw [← set9_def]
  exact set9_below (N := w.heap.size + 1) (belowUp (belowAl (belowAl (Below.refl _ _) _) _) hb) (by omega) _ _ _ _ _ _ _ _ _

set_option maxRecDepth 100000 in
set_option maxHeartbeats 1000000 in
theorem rcr_bad1d  (s : ByteArray) (hs : s.size ≤ maxLen) (u v r t ow ph : Int) (g : Bool) (w : World) (rb : Nat) (he : s.toList.isEmpty = true) (ho : decide (ow > 0) = true) (hp : decide (ph < 3) = true) (hr : (r == 0) = false) :
    Calls Tryz.prog 51 #[.pointer (some ⟨rb, 0, none⟩), .agg #[.int .u8 1, .string s, .int .i64 u, .int .i64 v, .int .i64 r, .int .i64 t, .int .i64 ow, .int .u8 ph, .bool g]] w fun e w' => e = .returned (.tuple #[.agg #[.int .u8 0, .string ⟨#[]⟩, .int .i64 0, .int .i64 0, .int .i64 0, .int .i64 0, .int .i64 0, .int .u8 0, .bool false], .int .i64 1]) ∧ Below w.heap.size w w' := by
  have hcl := fun W => letters_any s W hs
  have hcn := fun W => numbers_any (1) s u v r t ow ph g W
  generalize nameB s = nn at hcl
  generalize countsB r t = mm at hcn
  clear hs
  go_enter Tryz.func51, Tryz.ntmps51
  go_wp2_with fail
  refine (hcl _).mono ?_
  rintro e w1 ⟨rfl, rfl⟩
  go_wp2_with fail
  refine (hcn _).mono ?_
  rintro e w1 ⟨rfl, hb⟩
  have hz := lt_of_back2 hb
  obtain ⟨⟨y0, y1, y2, y3, y4, y5, y6, y7, y8⟩, yf⟩ := nine ((hb.block w.heap.size (by simp; omega)).trans (alloc_last' w _ _))
  obtain ⟨⟨z0, z1, z2, z3, z4, z5, z6, z7, z8⟩, zf⟩ := nine ((hb.block (w.heap.size + 1) (by simp)).trans (alloc_last2 w _ _))
  clear hcl hcn
  go_wp2
  refine bodyPost_ret (v := .tuple #[.agg #[.int .u8 0, .string ⟨#[]⟩, .int .i64 0, .int .i64 0, .int .i64 0, .int .i64 0, .int .i64 0, .int .u8 0, .bool false], .int .i64 1]) (by simp [results, Tryz.results51, go_sem, z0, z1, z2, z3, z4, z5, z6, z7, z8]) rfl ⟨rfl, ?_⟩
  rw [← set9_def]
  exact set9_below (N := w.heap.size + 1) (belowUp (belowAl (belowAl (Below.refl _ _) _) _) hb) (by omega) _ _ _ _ _ _ _ _ _

set_option maxRecDepth 100000 in
set_option maxHeartbeats 1000000 in
theorem rcr_bad1e  (s : ByteArray) (hs : s.size ≤ maxLen) (u v r t ow ph : Int) (g : Bool) (w : World) (rb : Nat) (he : s.toList.isEmpty = true) (ho : decide (ow > 0) = true) (hp : decide (ph < 3) = true) (hr : (r == 0) = true) (ht : (t == 0) = false) :
    Calls Tryz.prog 51 #[.pointer (some ⟨rb, 0, none⟩), .agg #[.int .u8 1, .string s, .int .i64 u, .int .i64 v, .int .i64 r, .int .i64 t, .int .i64 ow, .int .u8 ph, .bool g]] w fun e w' => e = .returned (.tuple #[.agg #[.int .u8 0, .string ⟨#[]⟩, .int .i64 0, .int .i64 0, .int .i64 0, .int .i64 0, .int .i64 0, .int .u8 0, .bool false], .int .i64 1]) ∧ Below w.heap.size w w' := by
  have hcl := fun W => letters_any s W hs
  have hcn := fun W => numbers_any (1) s u v r t ow ph g W
  generalize nameB s = nn at hcl
  generalize countsB r t = mm at hcn
  clear hs
  go_enter Tryz.func51, Tryz.ntmps51
  go_wp2_with fail
  refine (hcl _).mono ?_
  rintro e w1 ⟨rfl, rfl⟩
  go_wp2_with fail
  refine (hcn _).mono ?_
  rintro e w1 ⟨rfl, hb⟩
  have hz := lt_of_back2 hb
  obtain ⟨⟨y0, y1, y2, y3, y4, y5, y6, y7, y8⟩, yf⟩ := nine ((hb.block w.heap.size (by simp; omega)).trans (alloc_last' w _ _))
  obtain ⟨⟨z0, z1, z2, z3, z4, z5, z6, z7, z8⟩, zf⟩ := nine ((hb.block (w.heap.size + 1) (by simp)).trans (alloc_last2 w _ _))
  clear hcl hcn
  go_wp2
  refine bodyPost_ret (v := .tuple #[.agg #[.int .u8 0, .string ⟨#[]⟩, .int .i64 0, .int .i64 0, .int .i64 0, .int .i64 0, .int .i64 0, .int .u8 0, .bool false], .int .i64 1]) (by simp [results, Tryz.results51, go_sem, z0, z1, z2, z3, z4, z5, z6, z7, z8]) rfl ⟨rfl, ?_⟩
  rw [← set9_def]
  exact set9_below (N := w.heap.size + 1) (belowUp (belowAl (belowAl (Below.refl _ _) _) _) hb) (by omega) _ _ _ _ _ _ _ _ _

set_option maxRecDepth 100000 in
set_option maxHeartbeats 1000000 in
theorem rcr_bad2 (k : Int) (s : ByteArray) (hs : s.size ≤ maxLen) (u v r t ow ph : Int) (g : Bool) (w : World) (rb : Nat) (h0 : (k == 0) = false) (h1 : (k == 1) = false) :
    Calls Tryz.prog 51 #[.pointer (some ⟨rb, 0, none⟩), .agg #[.int .u8 k, .string s, .int .i64 u, .int .i64 v, .int .i64 r, .int .i64 t, .int .i64 ow, .int .u8 ph, .bool g]] w fun e w' => e = .returned (.tuple #[.agg #[.int .u8 0, .string ⟨#[]⟩, .int .i64 0, .int .i64 0, .int .i64 0, .int .i64 0, .int .i64 0, .int .u8 0, .bool false], .int .i64 1]) ∧ Below w.heap.size w w' := by
  have hcl := fun W => letters_any s W hs
  have hcn := fun W => numbers_any (k) s u v r t ow ph g W
  generalize nameB s = nn at hcl
  generalize countsB r t = mm at hcn
  clear hs
  go_enter Tryz.func51, Tryz.ntmps51
  go_wp2_with fail
  refine (hcl _).mono ?_
  rintro e w1 ⟨rfl, rfl⟩
  go_wp2_with fail
  refine (hcn _).mono ?_
  rintro e w1 ⟨rfl, hb⟩
  have hz := lt_of_back2 hb
  obtain ⟨⟨y0, y1, y2, y3, y4, y5, y6, y7, y8⟩, yf⟩ := nine ((hb.block w.heap.size (by simp; omega)).trans (alloc_last' w _ _))
  obtain ⟨⟨z0, z1, z2, z3, z4, z5, z6, z7, z8⟩, zf⟩ := nine ((hb.block (w.heap.size + 1) (by simp)).trans (alloc_last2 w _ _))
  clear hcl hcn
  go_wp2
  refine bodyPost_ret (v := .tuple #[.agg #[.int .u8 0, .string ⟨#[]⟩, .int .i64 0, .int .i64 0, .int .i64 0, .int .i64 0, .int .i64 0, .int .u8 0, .bool false], .int .i64 1]) (by simp [results, Tryz.results51, go_sem, z0, z1, z2, z3, z4, z5, z6, z7, z8]) rfl ⟨rfl, ?_⟩
  rw [← set9_def]
  exact set9_below (N := w.heap.size + 1) (belowUp (belowAl (belowAl (Below.refl _ _) _) _) hb) (by omega) _ _ _ _ _ _ _ _ _

end Go.Proofs.YtdgfjneapialdaaGreatDoor.S
