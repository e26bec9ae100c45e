import Derived.Test.YtdgfjneapialdaaGreatDoorTh
namespace Go.Proofs.YtdgfjneapialdaaGreatDoor.S
open Go Go.RowKit Go.Maps

theorem Tab.lt {w : World} (h : Tab w) : 1 < w.heap.size := by
  unfold Tab Lib.TabIs World.var? at h
  rw [g1] at h
  simp only [Option.bind_some] at h
  split at h
  · rename_i e
    exact (Array.getElem?_eq_some_iff.1 e).1
  · cases h
section
variable {C : Nat → Prop} {w W : World} {rb : Nat} {lim born born' : Int} {pv ev : Value} {sv : List Value} {past : List (List Ob)} {es : List (Int × Ob)}
theorem IsRef.setNew (h0 : IsRef C w rb lim born' pv ev sv past es) (h : IsRef C W rb lim born pv ev sv past es) {N : Nat} (hN : w.heap.size ≤ N) (o : Nat) (v : Value) : IsRef C (W.setCell ⟨N, o, none⟩ v) rb lim born pv ev sv past es :=
  h.keepW (Below.heap_setCell _ _ _ _ (by have := h0.lt; show rb ≠ N; omega)) (fun b e => Below.heap_setCell _ _ _ _ (by have := own_lt h0.op e; show b ≠ N; omega)) (fun b e => Below.heap_setCell _ _ _ _ (by have := own_lt h0.oe e; show b ≠ N; omega)) (fun v hv b e => Below.heap_setCell _ _ _ _ (by have := h0.slt v hv b e; show b ≠ N; omega))
end

section
variable {C : Nat → Prop} {w : World} {rb : Nat} {lim born : Int} {pv ev nv : Value} {sp sv : List Value} {pre past : List (List Ob)} {l : List Ob} {es : List (Int × Ob)}

set_option maxRecDepth 100000 in
set_option maxHeartbeats 1000000 in
theorem rcr_old0 (h : IsRef C w rb lim born pv ev sv past es) (hsv : sv = sp ++ [nv]) (hpa : past = pre ++ [l]) (hb : pre.length ≤ 600) (s : ByteArray) (hs : s.size ≤ maxLen) (u v r t ow ph : Int) (g : Bool) (hn : nameB s = true) (hm : countsB r t = true) (ho : (ow == 0) = true) (hp : (ph == 0) = true) (hv6 : pre.length = 600) :
    Calls Tryz.prog 51 #[.pointer (some ⟨rb, 0, none⟩), .agg #[.int .u8 0, .string s, .int .i64 u, .int .i64 v, .int .i64 r, .int .i64 t, .int .i64 ow, .int .u8 ph, .bool g]] w fun e w' => e = .returned (.tuple #[.agg #[.int .u8 0, .string ⟨#[]⟩, .int .i64 0, .int .i64 0, .int .i64 0, .int .i64 0, .int .i64 0, .int .u8 0, .bool false], .int .i64 6]) ∧ Below w.heap.size w w' := by
  have hcl := fun W => letters_any s W hs
  have hcn := fun W => numbers_any 0 s u v r t ow ph g W
  simp only [hn] at hcl
  simp only [hm] at hcn
  have HO : Hid (IsRef C w rb lim born pv ev sv past es) := h
  have h2 := h
  rw [hsv, hpa] at h2
  have HV : Hid (∀ W, Below w.heap.size w W → Calls Tryz.prog 86 #[.pointer (some ⟨rb, 0, none⟩)] W fun e w' => e = .returned (.int .i64 (pre.length : Int)) ∧ w' = W) := fun W hW => version_any (h2.below hW) hb
  have HN : Hid (∀ W, Below w.heap.size w W → Calls Tryz.prog 118 #[.pointer (some ⟨rb, 0, none⟩)] W fun e w' => e = .returned nv ∧ ∃ n, w' = W.drewN n) := fun W hW => now_any (h2.below hW) hb
  obtain ⟨ad, cp, env⟩ := own_form h2.row
  have hrb := h.lt
  have hd6 : decide ((pre.length : Int) ≥ 600) = true := decide_eq_true (by omega)
  clear h h2 hb hsv hpa hs
  subst env
  go_enter Tryz.func51, Tryz.ntmps51
  go_wp2_with fail
  refine (hcl _).mono ?_
  rintro e w1 ⟨rfl, rfl⟩
  go_wp2_with fail
  refine (hcn _).mono ?_
  rintro e w1 ⟨rfl, hb⟩
  have hz := lt_of_back2 hb
  have HB1 : Hid (Below w.heap.size w w1) := belowUp (belowAl (belowAl (Below.refl _ _) _) _) hb
  have hA5 : Hid (w1.heap[w.heap.size]? = some (.cells #[.int .u8 0, .string s, .int .i64 u, .int .i64 v, .int .i64 r, .int .i64 t, .int .i64 ow, .int .u8 ph, .bool g] 84 (0, 0))) := (hb.block w.heap.size (by simp; omega)).trans (alloc_last' w _ _)
  have hA6 : Hid (w1.heap[w.heap.size + 1]? = some (.cells #[.int .u8 0, .string ⟨#[]⟩, .int .i64 0, .int .i64 0, .int .i64 0, .int .i64 0, .int .i64 0, .int .u8 0, .bool false] 84 (0, 0))) := (hb.block (w.heap.size + 1) (by simp)).trans (alloc_last2 w _ _)
  obtain ⟨⟨y0, y1, y2, y3, y4, y5, y6, y7, y8⟩, yf⟩ := nine hA5.out
  obtain ⟨⟨z0, z1, z2, z3, z4, z5, z6, z7, z8⟩, zf⟩ := nine hA6.out
  have hver := HV.out w1 HB1.out
  have q0 := (HO.out.below HB1.out).q0
  have q3 := (HO.out.below HB1.out).q3
  have qf := (HO.out.below HB1.out).fz
  have hrb2 : rb < w1.heap.size := by omega
  clear hcl hcn hb HV
  go_wp2_with fail
  refine hver.mono ?_
  rintro e w2 ⟨rfl, rfl⟩
  clear hver
  go_wp2
  refine bodyPost_ret (v := .tuple #[.agg #[.int .u8 0, .string ⟨#[]⟩, .int .i64 0, .int .i64 0, .int .i64 0, .int .i64 0, .int .i64 0, .int .u8 0, .bool false], .int .i64 6]) (by simp [results, Tryz.results51, go_sem, z0, z1, z2, z3, z4, z5, z6, z7, z8]) rfl ⟨rfl, ?_⟩
  rw [← set9_def]
  exact set9_below (N := w.heap.size + 1) HB1.out (by omega) _ _ _ _ _ _ _ _ _

set_option maxRecDepth 100000 in
set_option maxHeartbeats 1000000 in
theorem rcr_old1 (h : IsRef C w rb lim born pv ev sv past es) (hsv : sv = sp ++ [nv]) (hpa : past = pre ++ [l]) (hb : pre.length ≤ 600) (u v r t ow ph : Int) (g : Bool) (ho : decide (ow > 0) = true) (hp : decide (ph < 3) = true) (hr : (r == 0) = true) (ht : (t == 0) = true) (hv6 : pre.length = 600) :
    Calls Tryz.prog 51 #[.pointer (some ⟨rb, 0, none⟩), .agg #[.int .u8 1, .string ⟨#[]⟩, .int .i64 u, .int .i64 v, .int .i64 r, .int .i64 t, .int .i64 ow, .int .u8 ph, .bool g]] w fun e w' => e = .returned (.tuple #[.agg #[.int .u8 0, .string ⟨#[]⟩, .int .i64 0, .int .i64 0, .int .i64 0, .int .i64 0, .int .i64 0, .int .u8 0, .bool false], .int .i64 6]) ∧ Below w.heap.size w w' := by
  have hcl := fun W => letters_any ⟨#[]⟩ W (by unfold maxLen; decide)
  have hcn := fun W => numbers_any 1 ⟨#[]⟩ u v r t ow ph g W
  generalize nameB ⟨#[]⟩ = nn at hcl
  generalize countsB r t = mm at hcn
  have HO : Hid (IsRef C w rb lim born pv ev sv past es) := h
  have h2 := h
  rw [hsv, hpa] at h2
  have HV : Hid (∀ W, Below w.heap.size w W → Calls Tryz.prog 86 #[.pointer (some ⟨rb, 0, none⟩)] W fun e w' => e = .returned (.int .i64 (pre.length : Int)) ∧ w' = W) := fun W hW => version_any (h2.below hW) hb
  have HN : Hid (∀ W, Below w.heap.size w W → Calls Tryz.prog 118 #[.pointer (some ⟨rb, 0, none⟩)] W fun e w' => e = .returned nv ∧ ∃ n, w' = W.drewN n) := fun W hW => now_any (h2.below hW) hb
  obtain ⟨ad, cp, env⟩ := own_form h2.row
  have hrb := h.lt
  have hd6 : decide ((pre.length : Int) ≥ 600) = true := decide_eq_true (by omega)
  clear h h2 hb hsv hpa
  subst env
  go_enter Tryz.func51, Tryz.ntmps51
  go_wp2_with fail
  refine (hcl _).mono ?_
  rintro e w1 ⟨rfl, rfl⟩
  go_wp2_with fail
  refine (hcn _).mono ?_
  rintro e w1 ⟨rfl, hb⟩
  have hz := lt_of_back2 hb
  have HB1 : Hid (Below w.heap.size w w1) := belowUp (belowAl (belowAl (Below.refl _ _) _) _) hb
  have hA5 : Hid (w1.heap[w.heap.size]? = some (.cells #[.int .u8 1, .string ⟨#[]⟩, .int .i64 u, .int .i64 v, .int .i64 r, .int .i64 t, .int .i64 ow, .int .u8 ph, .bool g] 84 (0, 0))) := (hb.block w.heap.size (by simp; omega)).trans (alloc_last' w _ _)
  have hA6 : Hid (w1.heap[w.heap.size + 1]? = some (.cells #[.int .u8 0, .string ⟨#[]⟩, .int .i64 0, .int .i64 0, .int .i64 0, .int .i64 0, .int .i64 0, .int .u8 0, .bool false] 84 (0, 0))) := (hb.block (w.heap.size + 1) (by simp)).trans (alloc_last2 w _ _)
  obtain ⟨⟨y0, y1, y2, y3, y4, y5, y6, y7, y8⟩, yf⟩ := nine hA5.out
  obtain ⟨⟨z0, z1, z2, z3, z4, z5, z6, z7, z8⟩, zf⟩ := nine hA6.out
  have hver := HV.out w1 HB1.out
  have q0 := (HO.out.below HB1.out).q0
  have q3 := (HO.out.below HB1.out).q3
  have qf := (HO.out.below HB1.out).fz
  have hrb2 : rb < w1.heap.size := by omega
  clear hcl hcn hb HV
  go_wp2_with fail
  refine hver.mono ?_
  rintro e w2 ⟨rfl, rfl⟩
  clear hver
  go_wp2
  refine bodyPost_ret (v := .tuple #[.agg #[.int .u8 0, .string ⟨#[]⟩, .int .i64 0, .int .i64 0, .int .i64 0, .int .i64 0, .int .i64 0, .int .u8 0, .bool false], .int .i64 6]) (by simp [results, Tryz.results51, go_sem, z0, z1, z2, z3, z4, z5, z6, z7, z8]) rfl ⟨rfl, ?_⟩
  rw [← set9_def]
  exact set9_below (N := w.heap.size + 1) HB1.out (by omega) _ _ _ _ _ _ _ _ _

set_option maxRecDepth 100000 in
set_option maxHeartbeats 1000000 in
theorem rcr_exists (h : IsRef C w rb lim born pv ev sv past es) (hsv : sv = sp ++ [nv]) (hpa : past = pre ++ [l]) (hb : pre.length ≤ 600) (hl : l.length ≤ 10000) (hk : ∀ x ∈ l, 0 ≤ x.kind ∧ x.kind ≤ 255) (s : ByteArray) (hs : s.size ≤ maxLen) (u v r t ow ph : Int) (g : Bool) (hn : nameB s = true) (hm : countsB r t = true) (ho : (ow == 0) = true) (hp : (ph == 0) = true) (hv6 : pre.length < 600) (hat : 0 ≤ atL 0 s l) :
    Calls Tryz.prog 51 #[.pointer (some ⟨rb, 0, none⟩), .agg #[.int .u8 0, .string s, .int .i64 u, .int .i64 v, .int .i64 r, .int .i64 t, .int .i64 ow, .int .u8 ph, .bool g]] w fun e w' => e = .returned (.tuple #[.agg #[.int .u8 0, .string ⟨#[]⟩, .int .i64 0, .int .i64 0, .int .i64 0, .int .i64 0, .int .i64 0, .int .u8 0, .bool false], .int .i64 2]) ∧ Below w.heap.size w w' := by
  have hcl := fun W => letters_any s W hs
  have hcn := fun W => numbers_any 0 s u v r t ow ph g W
  simp only [hn] at hcl
  simp only [hm] at hcn
  have HO : Hid (IsRef C w rb lim born pv ev sv past es) := h
  have h2 := h
  rw [hsv, hpa] at h2
  have HV : Hid (∀ W, Below w.heap.size w W → Calls Tryz.prog 86 #[.pointer (some ⟨rb, 0, none⟩)] W fun e w' => e = .returned (.int .i64 (pre.length : Int)) ∧ w' = W) := fun W hW => version_any (h2.below hW) hb
  have HN : Hid (∀ W, Below w.heap.size w W → Calls Tryz.prog 118 #[.pointer (some ⟨rb, 0, none⟩)] W fun e w' => e = .returned nv ∧ ∃ n, w' = W.drewN n) := fun W hW => now_any (h2.below hW) hb
  have HAT : Hid (∀ W, Below w.heap.size w W → Calls Tryz.prog 117 #[nv, .int .i64 0, .string s] W fun e w' => e = .returned (.int .i64 (atL 0 s l)) ∧ w' = W) := fun W hW => at_same W 0 nv l 0 s (row_below h2.row hW) hl hk
  obtain ⟨ad, cp, env⟩ := own_form h2.row
  have hrb := h.lt
  obtain ⟨A, hA⟩ : ∃ A, A = atL 0 s l := ⟨_, rfl⟩
  rw [← hA] at HAT hat
  clear hA
  have hat2 : decide (A ≥ 0) = true := decide_eq_true hat
  have hd6 : decide ((pre.length : Int) ≥ 600) = false := decide_eq_false (by omega)
  clear h h2 hk hb hsv hpa hs
  subst env
  go_enter Tryz.func51, Tryz.ntmps51
  go_wp2_with fail
  refine (hcl _).mono ?_
  rintro e w1 ⟨rfl, rfl⟩
  go_wp2_with fail
  refine (hcn _).mono ?_
  rintro e w1 ⟨rfl, hb⟩
  have hz := lt_of_back2 hb
  have HB1 : Hid (Below w.heap.size w w1) := belowUp (belowAl (belowAl (Below.refl _ _) _) _) hb
  have hA5 : Hid (w1.heap[w.heap.size]? = some (.cells #[.int .u8 0, .string s, .int .i64 u, .int .i64 v, .int .i64 r, .int .i64 t, .int .i64 ow, .int .u8 ph, .bool g] 84 (0, 0))) := (hb.block w.heap.size (by simp; omega)).trans (alloc_last' w _ _)
  have hA6 : Hid (w1.heap[w.heap.size + 1]? = some (.cells #[.int .u8 0, .string ⟨#[]⟩, .int .i64 0, .int .i64 0, .int .i64 0, .int .i64 0, .int .i64 0, .int .u8 0, .bool false] 84 (0, 0))) := (hb.block (w.heap.size + 1) (by simp)).trans (alloc_last2 w _ _)
  obtain ⟨⟨y0, y1, y2, y3, y4, y5, y6, y7, y8⟩, yf⟩ := nine hA5.out
  obtain ⟨⟨z0, z1, z2, z3, z4, z5, z6, z7, z8⟩, zf⟩ := nine hA6.out
  have hver := HV.out w1 HB1.out
  have q0 := (HO.out.below HB1.out).q0
  have q3 := (HO.out.below HB1.out).q3
  have qf := (HO.out.below HB1.out).fz
  have hrb2 : rb < w1.heap.size := by omega
  clear hcl hcn hb HV
  go_wp2_with fail
  refine hver.mono ?_
  rintro e w2 ⟨rfl, rfl⟩
  clear hver
  go_wp2_with fail
  go_quiet (first
    | (go_at_call 118; exact Calls.quiet_of (HN.out _ (belowDN HB1.out _)))
    | (go_at_call 117; exact Calls.quiet_of_same (HAT.out _ (belowDN HB1.out _))))
  go_wp2
  refine bodyPost_ret (v := .tuple #[.agg #[.int .u8 0, .string ⟨#[]⟩, .int .i64 0, .int .i64 0, .int .i64 0, .int .i64 0, .int .i64 0, .int .u8 0, .bool false], .int .i64 2]) (by simp [results, Tryz.results51, go_sem, z0, z1, z2, z3, z4, z5, z6, z7, z8]) rfl ⟨rfl, ?_⟩
  rw [← set9_def]
  exact set9_below (N := w.heap.size + 1) (belowDN HB1.out nq) (by omega) _ _ _ _ _ _ _ _ _

set_option maxRecDepth 100000 in
set_option maxHeartbeats 1000000 in
theorem rcr_full0 (h : IsRef C w rb lim born pv ev sv past es) (hsv : sv = sp ++ [nv]) (hpa : past = pre ++ [l]) (hb : pre.length ≤ 600) (hl : l.length ≤ 10000) (hk : ∀ x ∈ l, 0 ≤ x.kind ∧ x.kind ≤ 255) (s : ByteArray) (hs : s.size ≤ maxLen) (u v r t ow ph : Int) (g : Bool) (hn : nameB s = true) (hm : countsB r t = true) (ho : (ow == 0) = true) (hp : (ph == 0) = true) (hv6 : pre.length < 600) (hat : atL 0 s l = -1) (hfu : lim ≤ (l.length : Int)) :
    Calls Tryz.prog 51 #[.pointer (some ⟨rb, 0, none⟩), .agg #[.int .u8 0, .string s, .int .i64 u, .int .i64 v, .int .i64 r, .int .i64 t, .int .i64 ow, .int .u8 ph, .bool g]] w fun e w' => e = .returned (.tuple #[.agg #[.int .u8 0, .string ⟨#[]⟩, .int .i64 0, .int .i64 0, .int .i64 0, .int .i64 0, .int .i64 0, .int .u8 0, .bool false], .int .i64 5]) ∧ Below w.heap.size w w' := by
  have hcl := fun W => letters_any s W hs
  have hcn := fun W => numbers_any 0 s u v r t ow ph g W
  simp only [hn] at hcl
  simp only [hm] at hcn
  have HO : Hid (IsRef C w rb lim born pv ev sv past es) := h
  have h2 := h
  rw [hsv, hpa] at h2
  have HV : Hid (∀ W, Below w.heap.size w W → Calls Tryz.prog 86 #[.pointer (some ⟨rb, 0, none⟩)] W fun e w' => e = .returned (.int .i64 (pre.length : Int)) ∧ w' = W) := fun W hW => version_any (h2.below hW) hb
  have HN : Hid (∀ W, Below w.heap.size w W → Calls Tryz.prog 118 #[.pointer (some ⟨rb, 0, none⟩)] W fun e w' => e = .returned nv ∧ ∃ n, w' = W.drewN n) := fun W hW => now_any (h2.below hW) hb
  have HAT : Hid (∀ W, Below w.heap.size w W → Calls Tryz.prog 117 #[nv, .int .i64 0, .string s] W fun e w' => e = .returned (.int .i64 (atL 0 s l)) ∧ w' = W) := fun W hW => at_same W 0 nv l 0 s (row_below h2.row hW) hl hk
  obtain ⟨ad, cp, env⟩ := own_form h2.row
  have hrb := h.lt
  obtain ⟨A, hA⟩ : ∃ A, A = atL 0 s l := ⟨_, rfl⟩
  rw [← hA] at HAT hat
  clear hA
  have hat2 : decide (A ≥ 0) = false := decide_eq_false (by omega)
  clear hat
  have hd6 : decide ((pre.length : Int) ≥ 600) = false := decide_eq_false (by omega)
  have hdf : decide ((l.length : Int) ≥ lim) = true := decide_eq_true hfu
  clear h h2 hk hb hsv hpa hs
  subst env
  go_enter Tryz.func51, Tryz.ntmps51
  go_wp2_with fail
  refine (hcl _).mono ?_
  rintro e w1 ⟨rfl, rfl⟩
  go_wp2_with fail
  refine (hcn _).mono ?_
  rintro e w1 ⟨rfl, hb⟩
  have hz := lt_of_back2 hb
  have HB1 : Hid (Below w.heap.size w w1) := belowUp (belowAl (belowAl (Below.refl _ _) _) _) hb
  have hA5 : Hid (w1.heap[w.heap.size]? = some (.cells #[.int .u8 0, .string s, .int .i64 u, .int .i64 v, .int .i64 r, .int .i64 t, .int .i64 ow, .int .u8 ph, .bool g] 84 (0, 0))) := (hb.block w.heap.size (by simp; omega)).trans (alloc_last' w _ _)
  have hA6 : Hid (w1.heap[w.heap.size + 1]? = some (.cells #[.int .u8 0, .string ⟨#[]⟩, .int .i64 0, .int .i64 0, .int .i64 0, .int .i64 0, .int .i64 0, .int .u8 0, .bool false] 84 (0, 0))) := (hb.block (w.heap.size + 1) (by simp)).trans (alloc_last2 w _ _)
  obtain ⟨⟨y0, y1, y2, y3, y4, y5, y6, y7, y8⟩, yf⟩ := nine hA5.out
  obtain ⟨⟨z0, z1, z2, z3, z4, z5, z6, z7, z8⟩, zf⟩ := nine hA6.out
  have hver := HV.out w1 HB1.out
  have q0 := (HO.out.below HB1.out).q0
  have q3 := (HO.out.below HB1.out).q3
  have qf := (HO.out.below HB1.out).fz
  have hrb2 : rb < w1.heap.size := by omega
  clear hcl hcn hb HV
  go_wp2_with fail
  refine hver.mono ?_
  rintro e w2 ⟨rfl, rfl⟩
  clear hver
  go_wp2_with fail
  go_quiet (first
    | (go_at_call 118; exact Calls.quiet_of (HN.out _ (belowDN HB1.out _)))
    | (go_at_call 117; exact Calls.quiet_of_same (HAT.out _ (belowDN HB1.out _))))
  have HB2 : Hid (Below w.heap.size w (w2.drewN nq)) := belowDN HB1.out nq
  have K5 : Hid ((w2.drewN nq).heap[w.heap.size]? = some (.cells #[.int .u8 0, .string s, .int .i64 u, .int .i64 v, .int .i64 r, .int .i64 t, .int .i64 ow, .int .u8 ph, .bool g] 84 (0, 0))) := hA5.out
  have K6 : Hid ((w2.drewN nq).heap[w.heap.size + 1]? = some (.cells #[.int .u8 0, .string ⟨#[]⟩, .int .i64 0, .int .i64 0, .int .i64 0, .int .i64 0, .int .i64 0, .int .u8 0, .bool false] 84 (0, 0))) := hA6.out
  have hzz : w.heap.size + 1 < (w2.drewN nq).heap.size := hz
  clear y0 y1 y2 y3 y4 y5 y6 y7 y8 yf z0 z1 z2 z3 z4 z5 z6 z7 z8 zf q0 q3 qf hz hrb2 hA5 hA6 HB1
  generalize w2.drewN nq = w3 at *
  have q0 := (HO.out.below HB2.out).q0
  have q3 := (HO.out.below HB2.out).q3
  have qf := (HO.out.below HB2.out).fz
  have hrb3 : rb < w3.heap.size := by omega
  obtain ⟨⟨y0, y1, y2, y3, y4, y5, y6, y7, y8⟩, yf⟩ := nine K5.out
  obtain ⟨⟨z0, z1, z2, z3, z4, z5, z6, z7, z8⟩, zf⟩ := nine K6.out
  go_wp2_with fail
  go_quiet ((go_at_call 118; exact Calls.quiet_of (HN.out _ (belowDN HB2.out _))))
  go_wp2
  refine bodyPost_ret (v := .tuple #[.agg #[.int .u8 0, .string ⟨#[]⟩, .int .i64 0, .int .i64 0, .int .i64 0, .int .i64 0, .int .i64 0, .int .u8 0, .bool false], .int .i64 5]) (by simp [results, Tryz.results51, go_sem, z0, z1, z2, z3, z4, z5, z6, z7, z8]) rfl ⟨rfl, ?_⟩
  rw [← set9_def]
  exact set9_below (N := w.heap.size + 1) (belowDN HB2.out nq) (by omega) _ _ _ _ _ _ _ _ _

set_option maxRecDepth 100000 in
set_option maxHeartbeats 1000000 in
theorem rcr_full1 (h : IsRef C w rb lim born pv ev sv past es) (hsv : sv = sp ++ [nv]) (hpa : past = pre ++ [l]) (hb : pre.length ≤ 600) (u v r t ow ph : Int) (g : Bool) (ho : decide (ow > 0) = true) (hp : decide (ph < 3) = true) (hr : (r == 0) = true) (ht : (t == 0) = true) (hv6 : pre.length < 600) (hfu : lim ≤ (l.length : Int)) :
    Calls Tryz.prog 51 #[.pointer (some ⟨rb, 0, none⟩), .agg #[.int .u8 1, .string ⟨#[]⟩, .int .i64 u, .int .i64 v, .int .i64 r, .int .i64 t, .int .i64 ow, .int .u8 ph, .bool g]] w fun e w' => e = .returned (.tuple #[.agg #[.int .u8 0, .string ⟨#[]⟩, .int .i64 0, .int .i64 0, .int .i64 0, .int .i64 0, .int .i64 0, .int .u8 0, .bool false], .int .i64 5]) ∧ Below w.heap.size w w' := by
  have hcl := fun W => letters_any ⟨#[]⟩ W (by unfold maxLen; decide)
  have hcn := fun W => numbers_any 1 ⟨#[]⟩ u v r t ow ph g W
  generalize nameB ⟨#[]⟩ = nn at hcl
  generalize countsB r t = mm at hcn
  have HO : Hid (IsRef C w rb lim born pv ev sv past es) := h
  have h2 := h
  rw [hsv, hpa] at h2
  have HV : Hid (∀ W, Below w.heap.size w W → Calls Tryz.prog 86 #[.pointer (some ⟨rb, 0, none⟩)] W fun e w' => e = .returned (.int .i64 (pre.length : Int)) ∧ w' = W) := fun W hW => version_any (h2.below hW) hb
  have HN : Hid (∀ W, Below w.heap.size w W → Calls Tryz.prog 118 #[.pointer (some ⟨rb, 0, none⟩)] W fun e w' => e = .returned nv ∧ ∃ n, w' = W.drewN n) := fun W hW => now_any (h2.below hW) hb
  obtain ⟨ad, cp, env⟩ := own_form h2.row
  have hrb := h.lt
  have hd6 : decide ((pre.length : Int) ≥ 600) = false := decide_eq_false (by omega)
  have hdf : decide ((l.length : Int) ≥ lim) = true := decide_eq_true hfu
  clear h h2 hb hsv hpa
  subst env
  go_enter Tryz.func51, Tryz.ntmps51
  go_wp2_with fail
  refine (hcl _).mono ?_
  rintro e w1 ⟨rfl, rfl⟩
  go_wp2_with fail
  refine (hcn _).mono ?_
  rintro e w1 ⟨rfl, hb⟩
  have hz := lt_of_back2 hb
  have HB1 : Hid (Below w.heap.size w w1) := belowUp (belowAl (belowAl (Below.refl _ _) _) _) hb
  have hA5 : Hid (w1.heap[w.heap.size]? = some (.cells #[.int .u8 1, .string ⟨#[]⟩, .int .i64 u, .int .i64 v, .int .i64 r, .int .i64 t, .int .i64 ow, .int .u8 ph, .bool g] 84 (0, 0))) := (hb.block w.heap.size (by simp; omega)).trans (alloc_last' w _ _)
  have hA6 : Hid (w1.heap[w.heap.size + 1]? = some (.cells #[.int .u8 0, .string ⟨#[]⟩, .int .i64 0, .int .i64 0, .int .i64 0, .int .i64 0, .int .i64 0, .int .u8 0, .bool false] 84 (0, 0))) := (hb.block (w.heap.size + 1) (by simp)).trans (alloc_last2 w _ _)
  obtain ⟨⟨y0, y1, y2, y3, y4, y5, y6, y7, y8⟩, yf⟩ := nine hA5.out
  obtain ⟨⟨z0, z1, z2, z3, z4, z5, z6, z7, z8⟩, zf⟩ := nine hA6.out
  have hver := HV.out w1 HB1.out
  have q0 := (HO.out.below HB1.out).q0
  have q3 := (HO.out.below HB1.out).q3
  have qf := (HO.out.below HB1.out).fz
  have hrb2 : rb < w1.heap.size := by omega
  clear hcl hcn hb HV
  go_wp2_with fail
  refine hver.mono ?_
  rintro e w2 ⟨rfl, rfl⟩
  clear hver
  go_wp2_with fail
  go_quiet (fail)
  have HB2 : Hid (Below w.heap.size w (w2.drewN nq)) := belowDN HB1.out nq
  have K5 : Hid ((w2.drewN nq).heap[w.heap.size]? = some (.cells #[.int .u8 1, .string ⟨#[]⟩, .int .i64 u, .int .i64 v, .int .i64 r, .int .i64 t, .int .i64 ow, .int .u8 ph, .bool g] 84 (0, 0))) := hA5.out
  have K6 : Hid ((w2.drewN nq).heap[w.heap.size + 1]? = some (.cells #[.int .u8 0, .string ⟨#[]⟩, .int .i64 0, .int .i64 0, .int .i64 0, .int .i64 0, .int .i64 0, .int .u8 0, .bool false] 84 (0, 0))) := hA6.out
  have hzz : w.heap.size + 1 < (w2.drewN nq).heap.size := hz
  clear y0 y1 y2 y3 y4 y5 y6 y7 y8 yf z0 z1 z2 z3 z4 z5 z6 z7 z8 zf q0 q3 qf hz hrb2 hA5 hA6 HB1
  generalize w2.drewN nq = w3 at *
  have q0 := (HO.out.below HB2.out).q0
  have q3 := (HO.out.below HB2.out).q3
  have qf := (HO.out.below HB2.out).fz
  have hrb3 : rb < w3.heap.size := by omega
  obtain ⟨⟨y0, y1, y2, y3, y4, y5, y6, y7, y8⟩, yf⟩ := nine K5.out
  obtain ⟨⟨z0, z1, z2, z3, z4, z5, z6, z7, z8⟩, zf⟩ := nine K6.out
  go_wp2_with fail
  go_quiet ((go_at_call 118; exact Calls.quiet_of (HN.out _ (belowDN HB2.out _))))
  go_wp2
  refine bodyPost_ret (v := .tuple #[.agg #[.int .u8 0, .string ⟨#[]⟩, .int .i64 0, .int .i64 0, .int .i64 0, .int .i64 0, .int .i64 0, .int .u8 0, .bool false], .int .i64 5]) (by simp [results, Tryz.results51, go_sem, z0, z1, z2, z3, z4, z5, z6, z7, z8]) rfl ⟨rfl, ?_⟩
  rw [← set9_def]
  exact set9_below (N := w.heap.size + 1) (belowDN HB2.out nq) (by omega) _ _ _ _ _ _ _ _ _

set_option maxRecDepth 100000 in
set_option maxHeartbeats 1000000 in
theorem rcr_ok0 (h : IsRef C w rb lim born pv ev sv past es) (hsv : sv = sp ++ [nv]) (hpa : past = pre ++ [l]) (hC : ∀ b, C b → b < w.heap.size) (hb : pre.length ≤ 600) (hl : l.length ≤ 10000) (hes : es.length ≤ 10000) (hk : ∀ x ∈ l, 0 ≤ x.kind ∧ x.kind ≤ 255) (hnd : l.Pairwise fun a b => ¬ (a.kind = b.kind ∧ a.name = b.name)) (s : ByteArray) (hs : s.size ≤ maxLen) (u v r t ow ph : Int) (g : Bool) (hn : nameB s = true) (hm : countsB r t = true) (ho : (ow == 0) = true) (hp : (ph == 0) = true) (hv6 : pre.length < 600) (hat : atL 0 s l = -1) (hfu : (l.length : Int) < lim) (hb0 : 0 ≤ born) (hb1 : born ≤ 10000) :
    Calls Tryz.prog 51 #[.pointer (some ⟨rb, 0, none⟩), .agg #[.int .u8 0, .string s, .int .i64 u, .int .i64 v, .int .i64 r, .int .i64 t, .int .i64 ow, .int .u8 ph, .bool g]] w fun e w' => e = .returned (.tuple #[.agg #[.int .u8 0, .string s, .int .i64 (born + 1), .int .i64 ((pre.length : Int) + 1), .int .i64 r, .int .i64 t, .int .i64 ow, .int .u8 ph, .bool false], .int .i64 0]) ∧ Wrote C w w' rb lim (born + 1) sv past es l 0 ⟨0, s, born + 1, ((pre.length : Int) + 1), r, t, ow, ph, false⟩ := by
  have hcl := fun W => letters_any s W hs
  have hcn := fun W => numbers_any 0 s u v r t ow ph g W
  simp only [hn] at hcl
  simp only [hm] at hcn
  have HSV : Hid (sv = sp ++ [nv]) := hsv
  have HPA : Hid (past = pre ++ [l]) := hpa
  have HW : Hid (∀ b, C b → b < w.heap.size) := hC
  have HE : Hid (pre.length < 600 ∧ l.length ≤ 10000 ∧ es.length ≤ 10000 ∧ (∀ x ∈ l, 0 ≤ x.kind ∧ x.kind ≤ 255) ∧ l.Pairwise fun a b => ¬ (a.kind = b.kind ∧ a.name = b.name)) := ⟨hv6, hl, hes, hk, hnd⟩
  have HO : Hid (IsRef C w rb lim born pv ev sv past es) := h
  have h2 := h
  rw [hsv, hpa] at h2
  have HV : Hid (∀ W, Below w.heap.size w W → Calls Tryz.prog 86 #[.pointer (some ⟨rb, 0, none⟩)] W fun e w' => e = .returned (.int .i64 (pre.length : Int)) ∧ w' = W) := fun W hW => version_any (h2.below hW) hb
  have HN : Hid (∀ W, Below w.heap.size w W → Calls Tryz.prog 118 #[.pointer (some ⟨rb, 0, none⟩)] W fun e w' => e = .returned nv ∧ ∃ n, w' = W.drewN n) := fun W hW => now_any (h2.below hW) hb
  have HAT : Hid (∀ W, Below w.heap.size w W → Calls Tryz.prog 117 #[nv, .int .i64 0, .string s] W fun e w' => e = .returned (.int .i64 (atL 0 s l)) ∧ w' = W) := fun W hW => at_same W 0 nv l 0 s (row_below h2.row hW) hl hk
  obtain ⟨ad, cp, env⟩ := own_form h2.row
  have hrb := h.lt
  obtain ⟨A, hA⟩ : ∃ A, A = atL 0 s l := ⟨_, rfl⟩
  rw [← hA] at HAT hat
  clear hA
  have hat2 : decide (A ≥ 0) = false := decide_eq_false (by omega)
  clear hat
  have hd6 : decide ((pre.length : Int) ≥ 600) = false := decide_eq_false (by omega)
  have hdf : decide ((l.length : Int) ≥ lim) = false := decide_eq_false (by omega)
  clear h h2 hk hb hsv hpa hs hC hes hnd
  subst env
  go_enter Tryz.func51, Tryz.ntmps51
  go_wp2_with fail
  refine (hcl _).mono ?_
  rintro e w1 ⟨rfl, rfl⟩
  go_wp2_with fail
  refine (hcn _).mono ?_
  rintro e w1 ⟨rfl, hb⟩
  have hz := lt_of_back2 hb
  have HB1 : Hid (Below w.heap.size w w1) := belowUp (belowAl (belowAl (Below.refl _ _) _) _) hb
  have hA5 : Hid (w1.heap[w.heap.size]? = some (.cells #[.int .u8 0, .string s, .int .i64 u, .int .i64 v, .int .i64 r, .int .i64 t, .int .i64 ow, .int .u8 ph, .bool g] 84 (0, 0))) := (hb.block w.heap.size (by simp; omega)).trans (alloc_last' w _ _)
  have hA6 : Hid (w1.heap[w.heap.size + 1]? = some (.cells #[.int .u8 0, .string ⟨#[]⟩, .int .i64 0, .int .i64 0, .int .i64 0, .int .i64 0, .int .i64 0, .int .u8 0, .bool false] 84 (0, 0))) := (hb.block (w.heap.size + 1) (by simp)).trans (alloc_last2 w _ _)
  obtain ⟨⟨y0, y1, y2, y3, y4, y5, y6, y7, y8⟩, yf⟩ := nine hA5.out
  obtain ⟨⟨z0, z1, z2, z3, z4, z5, z6, z7, z8⟩, zf⟩ := nine hA6.out
  have hver := HV.out w1 HB1.out
  have q0 := (HO.out.below HB1.out).q0
  have q3 := (HO.out.below HB1.out).q3
  have qf := (HO.out.below HB1.out).fz
  have hrb2 : rb < w1.heap.size := by omega
  clear hcl hcn hb HV
  go_wp2_with fail
  refine hver.mono ?_
  rintro e w2 ⟨rfl, rfl⟩
  clear hver
  go_wp2_with fail
  go_quiet (first
    | (go_at_call 118; exact Calls.quiet_of (HN.out _ (belowDN HB1.out _)))
    | (go_at_call 117; exact Calls.quiet_of_same (HAT.out _ (belowDN HB1.out _))))
  have HB2 : Hid (Below w.heap.size w (w2.drewN nq)) := belowDN HB1.out nq
  have K5 : Hid ((w2.drewN nq).heap[w.heap.size]? = some (.cells #[.int .u8 0, .string s, .int .i64 u, .int .i64 v, .int .i64 r, .int .i64 t, .int .i64 ow, .int .u8 ph, .bool g] 84 (0, 0))) := hA5.out
  have K6 : Hid ((w2.drewN nq).heap[w.heap.size + 1]? = some (.cells #[.int .u8 0, .string ⟨#[]⟩, .int .i64 0, .int .i64 0, .int .i64 0, .int .i64 0, .int .i64 0, .int .u8 0, .bool false] 84 (0, 0))) := hA6.out
  have hzz : w.heap.size + 1 < (w2.drewN nq).heap.size := hz
  clear y0 y1 y2 y3 y4 y5 y6 y7 y8 yf z0 z1 z2 z3 z4 z5 z6 z7 z8 zf q0 q3 qf hz hrb2 hA5 hA6 HB1
  generalize w2.drewN nq = w3 at *
  have q0 := (HO.out.below HB2.out).q0
  have q3 := (HO.out.below HB2.out).q3
  have qf := (HO.out.below HB2.out).fz
  have hrb3 : rb < w3.heap.size := by omega
  obtain ⟨⟨y0, y1, y2, y3, y4, y5, y6, y7, y8⟩, yf⟩ := nine K5.out
  obtain ⟨⟨z0, z1, z2, z3, z4, z5, z6, z7, z8⟩, zf⟩ := nine K6.out
  go_wp2_with fail
  go_quiet ((go_at_call 118; exact Calls.quiet_of (HN.out _ (belowDN HB2.out _))))
  have HB4 : Hid (Below w.heap.size w (w3.drewN nq)) := belowDN HB2.out nq
  have L5 : Hid ((w3.drewN nq).heap[w.heap.size]? = some (.cells #[.int .u8 0, .string s, .int .i64 u, .int .i64 v, .int .i64 r, .int .i64 t, .int .i64 ow, .int .u8 ph, .bool g] 84 (0, 0))) := K5.out
  have L6 : Hid ((w3.drewN nq).heap[w.heap.size + 1]? = some (.cells #[.int .u8 0, .string ⟨#[]⟩, .int .i64 0, .int .i64 0, .int .i64 0, .int .i64 0, .int .i64 0, .int .u8 0, .bool false] 84 (0, 0))) := K6.out
  have hz4 : w.heap.size + 1 < (w3.drewN nq).heap.size := hzz
  clear y0 y1 y2 y3 y4 y5 y6 y7 y8 yf z0 z1 z2 z3 z4 z5 z6 z7 z8 zf q0 q3 qf hzz hrb3 K5 K6 HB2
  generalize w3.drewN nq = w4 at *
  have q3 := (HO.out.below HB4.out).q3
  have qf := (HO.out.below HB4.out).fz
  have hrb4 : rb < w4.heap.size := by omega
  obtain ⟨⟨y0, y1, y2, y3, y4, y5, y6, y7, y8⟩, yf⟩ := nine L5.out
  have HR5 : Hid (IsRef C (((w4.setCell ⟨rb, 3, none⟩ (.int .i64 (born + 1))).setCell ⟨w.heap.size, 2, none⟩ (.int .i64 (born + 1))).setCell ⟨w.heap.size, 8, none⟩ (.bool false)) rb lim (born + 1) pv ev sv past es) := HO.out.setNew (HO.out.setNew ((HO.out.below HB4.out).setBorn (born + 1)) (Nat.le_refl _) _ _) (Nat.le_refl _) _ _
  have HK5 : Hid (KeptC C w (((w4.setCell ⟨rb, 3, none⟩ (.int .i64 (born + 1))).setCell ⟨w.heap.size, 2, none⟩ (.int .i64 (born + 1))).setCell ⟨w.heap.size, 8, none⟩ (.bool false))) := (((KeptC.of_below HB4.out rfl).set (a := ⟨rb, 3, none⟩) HO.out.c0 _).set (a := ⟨w.heap.size, 2, none⟩) (fun c => Nat.lt_irrefl _ (HW.out _ c)) _).set (a := ⟨w.heap.size, 8, none⟩) (fun c => Nat.lt_irrefl _ (HW.out _ c)) _
  have H6 : Hid (((((w4.setCell ⟨rb, 3, none⟩ (.int .i64 (born + 1))).setCell ⟨w.heap.size, 2, none⟩ (.int .i64 (born + 1))).setCell ⟨w.heap.size, 8, none⟩ (.bool false))).heap[w.heap.size + 1]? = some (.cells #[.int .u8 0, .string ⟨#[]⟩, .int .i64 0, .int .i64 0, .int .i64 0, .int .i64 0, .int .i64 0, .int .u8 0, .bool false] 84 (0, 0))) := by
    show _ = _
    rw [Below.heap_setCell _ _ _ _ (by show w.heap.size + 1 ≠ w.heap.size; omega), Below.heap_setCell _ _ _ _ (by show w.heap.size + 1 ≠ w.heap.size; omega), Below.heap_setCell _ _ _ _ (by show w.heap.size + 1 ≠ rb; omega)]
    exact L6.out
  have hsz5 : w.heap.size + 1 < ((((w4.setCell ⟨rb, 3, none⟩ (.int .i64 (born + 1))).setCell ⟨w.heap.size, 2, none⟩ (.int .i64 (born + 1))).setCell ⟨w.heap.size, 8, none⟩ (.bool false))).heap.size := by simp [World.setCell]; omega
  have hwr := write_any (HO.out.cg2 HR5.out) HSV.out HPA.out (cg_lt2 HW.out HK5.out.size) HE.out.1 HE.out.2.1 HE.out.2.2.1 HE.out.2.2.2.1 HE.out.2.2.2.2 0 0 s (born + 1) v r t ow ph false (by omega) (by omega)
  go_wp2_with fail
  refine hwr.mono ?_
  rintro e w6 ⟨rfl, hw6⟩
  have HW6 : Hid (Wrote (CG C w (((w4.setCell ⟨rb, 3, none⟩ (.int .i64 (born + 1))).setCell ⟨w.heap.size, 2, none⟩ (.int .i64 (born + 1))).setCell ⟨w.heap.size, 8, none⟩ (.bool false))) (((w4.setCell ⟨rb, 3, none⟩ (.int .i64 (born + 1))).setCell ⟨w.heap.size, 2, none⟩ (.int .i64 (born + 1))).setCell ⟨w.heap.size, 8, none⟩ (.bool false)) w6 rb lim (born + 1) sv past es l 0 ⟨0, s, born + 1, ((pre.length : Int) + 1), r, t, ow, ph, false⟩) := hw6
  obtain ⟨⟨z0, z1, z2, z3, z4, z5, z6, z7, z8⟩, zf⟩ := nine ((HW6.out.new (Nat.le_succ _) hsz5).trans H6.out)
  have hz6 : w.heap.size + 1 < w6.heap.size := Nat.lt_of_lt_of_le hsz5 HW6.out.2.size
  clear hw6 hwr y0 y1 y2 y3 y4 y5 y6 y7 y8 yf q3 qf
  go_wp2
  refine bodyPost_ret (v := .tuple #[.agg #[.int .u8 0, .string s, .int .i64 (born + 1), .int .i64 ((pre.length : Int) + 1), .int .i64 r, .int .i64 t, .int .i64 ow, .int .u8 ph, .bool false], .int .i64 0]) (by simp [results, Tryz.results51, go_sem, z0, z1, z2, z3, z4, z5, z6, z7, z8]) rfl ⟨rfl, ?_⟩
  rw [← set9_def]
  exact HW6.out.out2 HK5.out (Nat.le_succ _) hsz5 HW.out _ _ _ _ _ _ _ _ _

set_option maxRecDepth 100000 in
set_option maxHeartbeats 1000000 in
theorem rcr_ok1 (h : IsRef C w rb lim born pv ev sv past es) (hsv : sv = sp ++ [nv]) (hpa : past = pre ++ [l]) (hC : ∀ b, C b → b < w.heap.size) (hb : pre.length ≤ 600) (hl : l.length ≤ 10000) (hes : es.length ≤ 10000) (hk : ∀ x ∈ l, 0 ≤ x.kind ∧ x.kind ≤ 255) (hnd : l.Pairwise fun a b => ¬ (a.kind = b.kind ∧ a.name = b.name)) (u v r t ow ph : Int) (g : Bool) (ho : decide (ow > 0) = true) (hp : decide (ph < 3) = true) (hr : (r == 0) = true) (ht : (t == 0) = true) (hv6 : pre.length < 600) (hfu : (l.length : Int) < lim) (hT : Tab w) (hrb1 : rb ≠ 1) (hb0 : 0 ≤ born) (hb1 : born ≤ 10000) :
    Calls Tryz.prog 51 #[.pointer (some ⟨rb, 0, none⟩), .agg #[.int .u8 1, .string ⟨#[]⟩, .int .i64 u, .int .i64 v, .int .i64 r, .int .i64 t, .int .i64 ow, .int .u8 ph, .bool g]] w fun e w' => e = .returned (.tuple #[.agg #[.int .u8 1, .string (podName (born + 1)), .int .i64 (born + 1), .int .i64 ((pre.length : Int) + 1), .int .i64 r, .int .i64 t, .int .i64 ow, .int .u8 ph, .bool false], .int .i64 0]) ∧ Wrote C w w' rb lim (born + 1) sv past es l 0 ⟨1, (podName (born + 1)), born + 1, ((pre.length : Int) + 1), r, t, ow, ph, false⟩ := by
  have hcl := fun W => letters_any ⟨#[]⟩ W (by unfold maxLen; decide)
  have hcn := fun W => numbers_any 1 ⟨#[]⟩ u v r t ow ph g W
  generalize nameB ⟨#[]⟩ = nn at hcl
  generalize countsB r t = mm at hcn
  have HSV : Hid (sv = sp ++ [nv]) := hsv
  have HPA : Hid (past = pre ++ [l]) := hpa
  have HW : Hid (∀ b, C b → b < w.heap.size) := hC
  have HE : Hid (pre.length < 600 ∧ l.length ≤ 10000 ∧ es.length ≤ 10000 ∧ (∀ x ∈ l, 0 ≤ x.kind ∧ x.kind ≤ 255) ∧ l.Pairwise fun a b => ¬ (a.kind = b.kind ∧ a.name = b.name)) := ⟨hv6, hl, hes, hk, hnd⟩
  have HT : Hid (Tab w) := hT
  have HO : Hid (IsRef C w rb lim born pv ev sv past es) := h
  have h2 := h
  rw [hsv, hpa] at h2
  have HV : Hid (∀ W, Below w.heap.size w W → Calls Tryz.prog 86 #[.pointer (some ⟨rb, 0, none⟩)] W fun e w' => e = .returned (.int .i64 (pre.length : Int)) ∧ w' = W) := fun W hW => version_any (h2.below hW) hb
  have HN : Hid (∀ W, Below w.heap.size w W → Calls Tryz.prog 118 #[.pointer (some ⟨rb, 0, none⟩)] W fun e w' => e = .returned nv ∧ ∃ n, w' = W.drewN n) := fun W hW => now_any (h2.below hW) hb
  obtain ⟨ad, cp, env⟩ := own_form h2.row
  have hrb := h.lt
  have hd6 : decide ((pre.length : Int) ≥ 600) = false := decide_eq_false (by omega)
  have hdf : decide ((l.length : Int) ≥ lim) = false := decide_eq_false (by omega)
  clear h h2 hk hb hsv hpa hC hes hnd hT
  subst env
  go_enter Tryz.func51, Tryz.ntmps51
  go_wp2_with fail
  refine (hcl _).mono ?_
  rintro e w1 ⟨rfl, rfl⟩
  go_wp2_with fail
  refine (hcn _).mono ?_
  rintro e w1 ⟨rfl, hb⟩
  have hz := lt_of_back2 hb
  have HB1 : Hid (Below w.heap.size w w1) := belowUp (belowAl (belowAl (Below.refl _ _) _) _) hb
  have hA5 : Hid (w1.heap[w.heap.size]? = some (.cells #[.int .u8 1, .string ⟨#[]⟩, .int .i64 u, .int .i64 v, .int .i64 r, .int .i64 t, .int .i64 ow, .int .u8 ph, .bool g] 84 (0, 0))) := (hb.block w.heap.size (by simp; omega)).trans (alloc_last' w _ _)
  have hA6 : Hid (w1.heap[w.heap.size + 1]? = some (.cells #[.int .u8 0, .string ⟨#[]⟩, .int .i64 0, .int .i64 0, .int .i64 0, .int .i64 0, .int .i64 0, .int .u8 0, .bool false] 84 (0, 0))) := (hb.block (w.heap.size + 1) (by simp)).trans (alloc_last2 w _ _)
  obtain ⟨⟨y0, y1, y2, y3, y4, y5, y6, y7, y8⟩, yf⟩ := nine hA5.out
  obtain ⟨⟨z0, z1, z2, z3, z4, z5, z6, z7, z8⟩, zf⟩ := nine hA6.out
  have hver := HV.out w1 HB1.out
  have q0 := (HO.out.below HB1.out).q0
  have q3 := (HO.out.below HB1.out).q3
  have qf := (HO.out.below HB1.out).fz
  have hrb2 : rb < w1.heap.size := by omega
  clear hcl hcn hb HV
  go_wp2_with fail
  refine hver.mono ?_
  rintro e w2 ⟨rfl, rfl⟩
  clear hver
  go_wp2_with fail
  go_quiet (fail)
  have HB2 : Hid (Below w.heap.size w (w2.drewN nq)) := belowDN HB1.out nq
  have K5 : Hid ((w2.drewN nq).heap[w.heap.size]? = some (.cells #[.int .u8 1, .string ⟨#[]⟩, .int .i64 u, .int .i64 v, .int .i64 r, .int .i64 t, .int .i64 ow, .int .u8 ph, .bool g] 84 (0, 0))) := hA5.out
  have K6 : Hid ((w2.drewN nq).heap[w.heap.size + 1]? = some (.cells #[.int .u8 0, .string ⟨#[]⟩, .int .i64 0, .int .i64 0, .int .i64 0, .int .i64 0, .int .i64 0, .int .u8 0, .bool false] 84 (0, 0))) := hA6.out
  have hzz : w.heap.size + 1 < (w2.drewN nq).heap.size := hz
  clear y0 y1 y2 y3 y4 y5 y6 y7 y8 yf z0 z1 z2 z3 z4 z5 z6 z7 z8 zf q0 q3 qf hz hrb2 hA5 hA6 HB1
  generalize w2.drewN nq = w3 at *
  have q0 := (HO.out.below HB2.out).q0
  have q3 := (HO.out.below HB2.out).q3
  have qf := (HO.out.below HB2.out).fz
  have hrb3 : rb < w3.heap.size := by omega
  obtain ⟨⟨y0, y1, y2, y3, y4, y5, y6, y7, y8⟩, yf⟩ := nine K5.out
  obtain ⟨⟨z0, z1, z2, z3, z4, z5, z6, z7, z8⟩, zf⟩ := nine K6.out
  go_wp2_with fail
  go_quiet ((go_at_call 118; exact Calls.quiet_of (HN.out _ (belowDN HB2.out _))))
  have HB4 : Hid (Below w.heap.size w (w3.drewN nq)) := belowDN HB2.out nq
  have L5 : Hid ((w3.drewN nq).heap[w.heap.size]? = some (.cells #[.int .u8 1, .string ⟨#[]⟩, .int .i64 u, .int .i64 v, .int .i64 r, .int .i64 t, .int .i64 ow, .int .u8 ph, .bool g] 84 (0, 0))) := K5.out
  have L6 : Hid ((w3.drewN nq).heap[w.heap.size + 1]? = some (.cells #[.int .u8 0, .string ⟨#[]⟩, .int .i64 0, .int .i64 0, .int .i64 0, .int .i64 0, .int .i64 0, .int .u8 0, .bool false] 84 (0, 0))) := K6.out
  have hz4 : w.heap.size + 1 < (w3.drewN nq).heap.size := hzz
  clear y0 y1 y2 y3 y4 y5 y6 y7 y8 yf z0 z1 z2 z3 z4 z5 z6 z7 z8 zf q0 q3 qf hzz hrb3 K5 K6 HB2
  generalize w3.drewN nq = w4 at *
  have q3 := (HO.out.below HB4.out).q3
  have qf := (HO.out.below HB4.out).fz
  have hrb4 : rb < w4.heap.size := by omega
  obtain ⟨⟨y0, y1, y2, y3, y4, y5, y6, y7, y8⟩, yf⟩ := nine L5.out
  have HR5 : Hid (IsRef C (((w4.setCell ⟨rb, 3, none⟩ (.int .i64 (born + 1))).setCell ⟨w.heap.size, 2, none⟩ (.int .i64 (born + 1))).setCell ⟨w.heap.size, 8, none⟩ (.bool false)) rb lim (born + 1) pv ev sv past es) := HO.out.setNew (HO.out.setNew ((HO.out.below HB4.out).setBorn (born + 1)) (Nat.le_refl _) _ _) (Nat.le_refl _) _ _
  have HK5 : Hid (KeptC C w (((w4.setCell ⟨rb, 3, none⟩ (.int .i64 (born + 1))).setCell ⟨w.heap.size, 2, none⟩ (.int .i64 (born + 1))).setCell ⟨w.heap.size, 8, none⟩ (.bool false))) := (((KeptC.of_below HB4.out rfl).set (a := ⟨rb, 3, none⟩) HO.out.c0 _).set (a := ⟨w.heap.size, 2, none⟩) (fun c => Nat.lt_irrefl _ (HW.out _ c)) _).set (a := ⟨w.heap.size, 8, none⟩) (fun c => Nat.lt_irrefl _ (HW.out _ c)) _
  have H6 : Hid (((((w4.setCell ⟨rb, 3, none⟩ (.int .i64 (born + 1))).setCell ⟨w.heap.size, 2, none⟩ (.int .i64 (born + 1))).setCell ⟨w.heap.size, 8, none⟩ (.bool false))).heap[w.heap.size + 1]? = some (.cells #[.int .u8 0, .string ⟨#[]⟩, .int .i64 0, .int .i64 0, .int .i64 0, .int .i64 0, .int .i64 0, .int .u8 0, .bool false] 84 (0, 0))) := by
    show _ = _
    rw [Below.heap_setCell _ _ _ _ (by show w.heap.size + 1 ≠ w.heap.size; omega), Below.heap_setCell _ _ _ _ (by show w.heap.size + 1 ≠ w.heap.size; omega), Below.heap_setCell _ _ _ _ (by show w.heap.size + 1 ≠ rb; omega)]
    exact L6.out
  have hsz5 : w.heap.size + 1 < ((((w4.setCell ⟨rb, 3, none⟩ (.int .i64 (born + 1))).setCell ⟨w.heap.size, 2, none⟩ (.int .i64 (born + 1))).setCell ⟨w.heap.size, 8, none⟩ (.bool false))).heap.size := by simp [World.setCell]; omega
  have H5 : Hid (((((w4.setCell ⟨rb, 3, none⟩ (.int .i64 (born + 1))).setCell ⟨w.heap.size, 2, none⟩ (.int .i64 (born + 1))).setCell ⟨w.heap.size, 8, none⟩ (.bool false))).heap[w.heap.size]? = some (.cells #[.int .u8 1, .string ⟨#[]⟩, .int .i64 (born + 1), .int .i64 v, .int .i64 r, .int .i64 t, .int .i64 ow, .int .u8 ph, .bool false] 84 (0, 0))) := by
    show _ = _
    have e1 : (w4.setCell ⟨rb, 3, none⟩ (.int .i64 (born + 1))).heap[w.heap.size]? = some (.cells #[.int .u8 1, .string ⟨#[]⟩, .int .i64 u, .int .i64 v, .int .i64 r, .int .i64 t, .int .i64 ow, .int .u8 ph, .bool g] 84 (0, 0)) := (Below.heap_setCell _ _ _ _ (by show w.heap.size ≠ rb; omega)).trans L5.out
    have e2 := heap_setCell_at e1 2 (.int .i64 (born + 1))
    have e3 := heap_setCell_at e2 8 (.bool false)
    rw [e3]
    rfl
  have hT5 : Tab (((w4.setCell ⟨rb, 3, none⟩ (.int .i64 (born + 1))).setCell ⟨w.heap.size, 2, none⟩ (.int .i64 (born + 1))).setCell ⟨w.heap.size, 8, none⟩ (.bool false)) := HT.out.keep (by
    have h1 := HT.out.lt
    rw [Below.heap_setCell _ _ _ _ (by show 1 ≠ w.heap.size; omega), Below.heap_setCell _ _ _ _ (by show 1 ≠ w.heap.size; omega), Below.heap_setCell _ _ _ _ (by show 1 ≠ rb; omega)]
    exact HB4.out.block 1 h1)
  have hci := Tryz.strconv_Itoa (born + 1) (by omega) (by omega) _ hT5
  have hll : (Lib.itoa (born + 1)).length ≤ 21 := Lib.itoa_length_le (born + 1) (by omega) (by omega)
  have hsl : (⟨(Lib.itoa (born + 1)).toArray⟩ : ByteArray).size ≤ 21 := Lib.itoa_length_le (born + 1) (by omega) (by omega)
  go_wp2_with fail
  refine hci.mono ?_
  rintro e w5 ⟨rfl, qq, os, rfl⟩
  clear hci hT5
  have HB6 : Hid (Below ((((w4.setCell ⟨rb, 3, none⟩ (.int .i64 (born + 1))).setCell ⟨w.heap.size, 2, none⟩ (.int .i64 (born + 1))).setCell ⟨w.heap.size, 8, none⟩ (.bool false))).heap.size (((w4.setCell ⟨rb, 3, none⟩ (.int .i64 (born + 1))).setCell ⟨w.heap.size, 2, none⟩ (.int .i64 (born + 1))).setCell ⟨w.heap.size, 8, none⟩ (.bool false)) (Go.Sort.grow (((((w4.setCell ⟨rb, 3, none⟩ (.int .i64 (born + 1))).setCell ⟨w.heap.size, 2, none⟩ (.int .i64 (born + 1))).setCell ⟨w.heap.size, 8, none⟩ (.bool false))).drewN qq) os)) := below_grown _ _ _
  generalize Go.Sort.grow (((((w4.setCell ⟨rb, 3, none⟩ (.int .i64 (born + 1))).setCell ⟨w.heap.size, 2, none⟩ (.int .i64 (born + 1))).setCell ⟨w.heap.size, 8, none⟩ (.bool false))).drewN qq) os = w6 at *
  have M5 : Hid (w6.heap[w.heap.size]? = some (.cells #[.int .u8 1, .string ⟨#[]⟩, .int .i64 (born + 1), .int .i64 v, .int .i64 r, .int .i64 t, .int .i64 ow, .int .u8 ph, .bool false] 84 (0, 0))) := (HB6.out.block _ (by omega)).trans H5.out
  clear y0 y1 y2 y3 y4 y5 y6 y7 y8 yf q3 qf
  obtain ⟨⟨y0, y1, y2, y3, y4, y5, y6, y7, y8⟩, yf⟩ := nine M5.out
  have hzw6 : w.heap.size < w6.heap.size := (Array.getElem?_eq_some_iff.1 M5.out).1
  have HR7 : Hid (IsRef C (w6.setCell ⟨w.heap.size, 1, none⟩ (.string (podName (born + 1)))) rb lim (born + 1) pv ev sv past es) := HO.out.setNew (HR5.out.below HB6.out) (Nat.le_refl _) _ _
  have HK7 : Hid (KeptC C w (w6.setCell ⟨w.heap.size, 1, none⟩ (.string (podName (born + 1))))) := (HK5.out.below HB6.out).set (a := ⟨w.heap.size, 1, none⟩) (fun c => Nat.lt_irrefl _ (HW.out _ c)) _
  have H7 : Hid ((w6.setCell ⟨w.heap.size, 1, none⟩ (.string (podName (born + 1)))).heap[w.heap.size + 1]? = some (.cells #[.int .u8 0, .string ⟨#[]⟩, .int .i64 0, .int .i64 0, .int .i64 0, .int .i64 0, .int .i64 0, .int .u8 0, .bool false] 84 (0, 0))) := (Below.heap_setCell _ _ _ _ (by show w.heap.size + 1 ≠ w.heap.size; omega)).trans ((HB6.out.block _ hsz5).trans H6.out)
  have hsz7 : w.heap.size + 1 < (w6.setCell ⟨w.heap.size, 1, none⟩ (.string (podName (born + 1)))).heap.size := (Array.getElem?_eq_some_iff.1 H7.out).1
  have hwr := write_any (HO.out.cg2 HR7.out) HSV.out HPA.out (cg_lt2 HW.out HK7.out.size) HE.out.1 HE.out.2.1 HE.out.2.2.1 HE.out.2.2.2.1 HE.out.2.2.2.2 0 1 (podName (born + 1)) (born + 1) v r t ow ph false (by omega) (by omega)
  go_wp2_with fail
  refine hwr.mono ?_
  rintro e w8 ⟨rfl, hw8⟩
  have HW8 : Hid (Wrote (CG C w (w6.setCell ⟨w.heap.size, 1, none⟩ (.string (podName (born + 1))))) (w6.setCell ⟨w.heap.size, 1, none⟩ (.string (podName (born + 1)))) w8 rb lim (born + 1) sv past es l 0 ⟨1, (podName (born + 1)), born + 1, ((pre.length : Int) + 1), r, t, ow, ph, false⟩) := hw8
  obtain ⟨⟨z0, z1, z2, z3, z4, z5, z6, z7, z8⟩, zf⟩ := nine ((HW8.out.new (Nat.le_succ _) hsz7).trans H7.out)
  have hz8 : w.heap.size + 1 < w8.heap.size := Nat.lt_of_lt_of_le hsz7 HW8.out.2.size
  clear hw8 hwr y0 y1 y2 y3 y4 y5 y6 y7 y8 yf
  go_wp2
  refine bodyPost_ret (v := .tuple #[.agg #[.int .u8 1, .string (podName (born + 1)), .int .i64 (born + 1), .int .i64 ((pre.length : Int) + 1), .int .i64 r, .int .i64 t, .int .i64 ow, .int .u8 ph, .bool false], .int .i64 0]) (by simp [results, Tryz.results51, go_sem, z0, z1, z2, z3, z4, z5, z6, z7, z8]) rfl ⟨rfl, ?_⟩
  rw [← set9_def]
  exact HW8.out.out2 HK7.out (Nat.le_succ _) hsz7 HW.out _ _ _ _ _ _ _ _ _

end

end Go.Proofs.YtdgfjneapialdaaGreatDoor.S
