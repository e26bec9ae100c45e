import Derived.Test.YtdgfjneapialdaaGreatDoorTf
import Derived.Deep.RegionLaw
import Derived.Deep.DrawnRows
namespace Go.Proofs.YtdgfjneapialdaaGreatDoor.S
open Go Go.RowKit Go.Maps

theorem row_g {W : World} {base n cap : Nat} {e : TypeId} {size : Nat} {ad : Option Addr} {xs : List Value} (h : W.ownsRow base e size (.slice ad n cap) n xs) (hn : 0 < n) : ∃ g, ad = some ⟨g, 0, none⟩ := by
  rcases h.2 with ⟨_, h2⟩ | ⟨g, cap', cur, h1, _⟩
  · omega
  · injection h1 with a; exact ⟨g, a⟩

section
variable {C : Nat → Prop} {w : World} {rb : Nat} {lim born : Int} {pv ev nv : Value} {sp : List Value} {pre : List (List Ob)} {l : List Ob} {es : List (Int × Ob)}
set_option maxRecDepth 100000 in
set_option maxHeartbeats 2000000 in
theorem write_any {sv : List Value} {past : List (List Ob)} (h : IsRef C w rb lim born pv ev sv past es) (hsv : sv = sp ++ [nv]) (hpa : past = pre ++ [l]) (hC : ∀ b, C b → b < w.heap.size) (hb : pre.length < 600) (hl : l.length ≤ 10000) (hes : es.length ≤ 10000) (hk : ∀ x ∈ l, 0 ≤ x.kind ∧ x.kind ≤ 255) (hnd : l.Pairwise fun a b => ¬ (a.kind = b.kind ∧ a.name = b.name))
    (so k : Int) (s : ByteArray) (u v r t ow ph : Int) (g : Bool) (h0 : 0 ≤ k) (h1 : k ≤ 255) :
    Calls Tryz.prog 119 #[.pointer (some ⟨rb, 0, none⟩), .int .u8 so, .agg #[.int .u8 k, .string s, .int .i64 u, .int .i64 v, .int .i64 r, .int .i64 t, .int .i64 ow, .int .u8 ph, .bool g]] w fun e w' =>
      e = .returned (.agg #[.int .u8 k, .string s, .int .i64 u, .int .i64 ((pre.length : Int) + 1), .int .i64 r, .int .i64 t, .int .i64 ow, .int .u8 ph, .bool g]) ∧
      (∃ pv' ev' nv', IsRef C w' rb lim born pv' ev' (sv ++ [nv']) (past ++ [takenL l so ⟨k, s, u, (pre.length : Int) + 1, r, t, ow, ph, g⟩]) (es ++ [(so, ⟨k, s, u, (pre.length : Int) + 1, r, t, ow, ph, g⟩)])) ∧ KeptC C w w' := by
  have hB0 : ∀ o1 o2, Below w.heap.size w ((w.alloc o1).alloc o2) := fun o1 o2 => belowAl (belowAl (Below.refl _ _) _) _
  have hsl : sv.length = pre.length + 1 := by have := h.ls; rw [hpa] at this; simpa using this
  have HO : Hid (IsRef C w rb lim born pv ev sv past es) := h
  obtain ⟨adp, cpp, epv⟩ := own_form h.op
  subst hsv hpa
  have hv := fun o1 o2 => version_any (h.below (hB0 o1 o2)) (by omega)
  have HH : Hid (IsRef C w rb lim born pv ev (sp ++ [nv]) (pre ++ [l]) es) := h
  have HC : Hid (∀ b, C b → b < w.heap.size) := hC
  have HB : Hid (pre.length < 600) := hb
  have HES : Hid (es.length ≤ 10000) := hes
  have HKB : Hid (∀ x ∈ l, 0 ≤ x.kind ∧ x.kind ≤ 255) := hk
  have HND : Hid (l.Pairwise fun a b => ¬ (a.kind = b.kind ∧ a.name = b.name)) := hnd
  have HB0 : Hid (∀ o1 o2, Below w.heap.size w ((w.alloc o1).alloc o2)) := hB0
  obtain ⟨ad, cp, env⟩ := own_form h.row
  obtain ⟨ade, cpe, eev⟩ := own_form h.oe
  have hrbl := h.lt
  obtain ⟨sv, hsv⟩ : ∃ sv, sv = sp ++ [nv] := ⟨_, rfl⟩
  obtain ⟨past, hpa⟩ : ∃ past, past = pre ++ [l] := ⟨_, rfl⟩
  rw [← hsv] at HO hsl epv
  rw [← hpa] at HO
  rw [← hsv, ← hpa]
  have HSL : Hid (sv.length = pre.length + 1) := hsl
  have hslb : sv.length ≤ 601 := by omega
  clear h hC hes hk hnd hB0 hsv hpa hsl
  go_enter Tryz.func119, Tryz.ntmps119
  go_wp2_with fail
  refine (hv _ _).mono ?_
  rintro e w1 ⟨rfl, rfl⟩
  clear hv
  have hn := now_any (HH.out.below (HB0.out (.cells #[.int .u8 k, .string s, .int .i64 u, .int .i64 ((pre.length : Int) + 1), .int .i64 r, .int .i64 t, .int .i64 ow, .int .u8 ph, .bool g] 84) (.cells #[.int .u8 0, .string ⟨#[]⟩, .int .i64 0, .int .i64 0, .int .i64 0, .int .i64 0, .int .i64 0, .int .u8 0, .bool false] 84))) (by have := HB.out; omega)
  go_wp2_with fail
  refine hn.mono ?_
  rintro e w1 ⟨rfl, n1, rfl⟩
  clear hn
  have hB1 : Below w.heap.size w (((w.alloc (.cells #[.int .u8 k, .string s, .int .i64 u, .int .i64 ((pre.length : Int) + 1), .int .i64 r, .int .i64 t, .int .i64 ow, .int .u8 ph, .bool g] 84)).alloc (.cells #[.int .u8 0, .string ⟨#[]⟩, .int .i64 0, .int .i64 0, .int .i64 0, .int .i64 0, .int .i64 0, .int .u8 0, .bool false] 84)).drewN n1) := belowDN (HB0.out _ _) n1
  have b5 : (((w.alloc (.cells #[.int .u8 k, .string s, .int .i64 u, .int .i64 ((pre.length : Int) + 1), .int .i64 r, .int .i64 t, .int .i64 ow, .int .u8 ph, .bool g] 84)).alloc (.cells #[.int .u8 0, .string ⟨#[]⟩, .int .i64 0, .int .i64 0, .int .i64 0, .int .i64 0, .int .i64 0, .int .u8 0, .bool false] 84)).drewN n1).heap[w.heap.size]? = some (.cells #[.int .u8 k, .string s, .int .i64 u, .int .i64 ((pre.length : Int) + 1), .int .i64 r, .int .i64 t, .int .i64 ow, .int .u8 ph, .bool g] 84 (0, 0)) := alloc_last' w _ _
  have b6 : (((w.alloc (.cells #[.int .u8 k, .string s, .int .i64 u, .int .i64 ((pre.length : Int) + 1), .int .i64 r, .int .i64 t, .int .i64 ow, .int .u8 ph, .bool g] 84)).alloc (.cells #[.int .u8 0, .string ⟨#[]⟩, .int .i64 0, .int .i64 0, .int .i64 0, .int .i64 0, .int .i64 0, .int .u8 0, .bool false] 84)).drewN n1).heap[w.heap.size + 1]? = some (.cells #[.int .u8 0, .string ⟨#[]⟩, .int .i64 0, .int .i64 0, .int .i64 0, .int .i64 0, .int .i64 0, .int .u8 0, .bool false] 84 (0, 0)) := alloc_last2 w _ _
  have hat := at_any (((w.alloc (.cells #[.int .u8 k, .string s, .int .i64 u, .int .i64 ((pre.length : Int) + 1), .int .i64 r, .int .i64 t, .int .i64 ow, .int .u8 ph, .bool g] 84)).alloc (.cells #[.int .u8 0, .string ⟨#[]⟩, .int .i64 0, .int .i64 0, .int .i64 0, .int .i64 0, .int .i64 0, .int .u8 0, .bool false] 84)).drewN n1) 0 nv l k s (row_below HH.out.row hB1) hl HKB.out
  have hwz : w.heap.size + 2 ≤ (((w.alloc (.cells #[.int .u8 k, .string s, .int .i64 u, .int .i64 ((pre.length : Int) + 1), .int .i64 r, .int .i64 t, .int .i64 ow, .int .u8 ph, .bool g] 84)).alloc (.cells #[.int .u8 0, .string ⟨#[]⟩, .int .i64 0, .int .i64 0, .int .i64 0, .int .i64 0, .int .i64 0, .int .u8 0, .bool false] 84)).drewN n1).heap.size := by simp
  obtain ⟨W1, hW1⟩ : ∃ W1, W1 = (((w.alloc (.cells #[.int .u8 k, .string s, .int .i64 u, .int .i64 ((pre.length : Int) + 1), .int .i64 r, .int .i64 t, .int .i64 ow, .int .u8 ph, .bool g] 84)).alloc (.cells #[.int .u8 0, .string ⟨#[]⟩, .int .i64 0, .int .i64 0, .int .i64 0, .int .i64 0, .int .i64 0, .int .u8 0, .bool false] 84)).drewN n1) := ⟨_, rfl⟩
  rw [← hW1] at hB1 b5 b6 hat hwz ⊢
  clear hW1
  obtain ⟨X, hX⟩ : ∃ X : Ob, X = ⟨k, s, u, (pre.length : Int) + 1, r, t, ow, ph, g⟩ := ⟨_, rfl⟩
  have hXA : ∀ i (hi : i < l.length), unlike X l[i] = decide ((i : Int) ≠ atL k s l) := by rw [hX]; exact fun i hi => at_unlike (o := ⟨k, s, u, (pre.length : Int) + 1, r, t, ow, ph, g⟩) HND.out i hi
  obtain ⟨A, hA⟩ : ∃ A, A = atL k s l := ⟨_, rfl⟩
  rw [← hA] at hXA hat
  have HXA : Hid (∀ i (hi : i < l.length), unlike X l[i] = decide ((i : Int) ≠ A)) := hXA
  have HX : Hid (X = ⟨k, s, u, (pre.length : Int) + 1, r, t, ow, ph, g⟩) := hX
  have HB1 : Hid _ := hB1
  have H5 : Hid _ := b5
  have H6 : Hid _ := b6
  obtain ⟨⟨x0, x1, x2, x3, x4, x5, x6, x7, x8⟩, xf⟩ := nine b5
  have hl5 : w.heap.size < W1.heap.size := by omega
  clear hXA hX hA hB1 b5 b6 x2 x3 x4 x5 x6 x7 x8 xf
  subst env
  go_wp2_with fail
  refine hat.mono ?_
  rintro e w3 ⟨rfl, hb3⟩
  clear hat x0 x1
  have HB3 : Hid (Below w.heap.size w w3) := HB1.out.trans (hb3.mono HB1.out.size)
  have G5 : Hid (w3.heap[w.heap.size]? = some (.cells #[.int .u8 k, .string s, .int .i64 u, .int .i64 ((pre.length : Int) + 1), .int .i64 r, .int .i64 t, .int .i64 ow, .int .u8 ph, .bool g] 84 (0, 0))) := (hb3.block _ (by omega)).trans H5.out
  have G6 : Hid (w3.heap[w.heap.size + 1]? = some (.cells #[.int .u8 0, .string ⟨#[]⟩, .int .i64 0, .int .i64 0, .int .i64 0, .int .i64 0, .int .i64 0, .int .u8 0, .bool false] 84 (0, 0))) := (hb3.block _ (by omega)).trans H6.out
  have hwz3 : w.heap.size + 2 ≤ w3.heap.size := Nat.le_trans hwz hb3.size
  clear hb3 HB1 H5 H6 hwz hl5
  go_wp2
  go_loopw [9, 10] (fun vr i wr => ∃ (j : Nat) (L : List Ob), j ≤ l.length ∧ i = .int .i64 j ∧ Hid (L = (l.take j).filter (unlike X)) ∧ Hid (wr.ownsRow (w.heap.size + 2) 84 9 vr L.length (flatO L)) ∧ Hid (wr.heap[w.heap.size]? = some (.cells #[.int .u8 k, .string s, .int .i64 u, .int .i64 ((pre.length : Int) + 1), .int .i64 r, .int .i64 t, .int .i64 ow, .int .u8 ph, .bool g] 84 (0, 0))) ∧ Hid (wr.heap[w.heap.size + 1]? = some (.cells #[.int .u8 0, .string ⟨#[]⟩, .int .i64 0, .int .i64 0, .int .i64 0, .int .i64 0, .int .i64 0, .int .u8 0, .bool false] 84 (0, 0))) ∧ Hid (Below w.heap.size w wr) ∧ Hid (w.heap.size + 2 ≤ wr.heap.size)) (fun _ i _ => l.length - (intOf i).toNat)
  case atStart => exact ⟨0, [], Nat.zero_le _, rfl, by simp [Hid], World.ownsRow_nil _ _ _ _, G5, G6, HB3, hwz3⟩
  case round =>
    clear G5 G6 HB3 hwz3
    obtain ⟨j, L, hj, rfl, HL, HR, G5, G6, HBw, HZ⟩ := hrel
    have HLl : Hid (L.length ≤ 10000) := by
      have h1 := List.length_filter_le (unlike X) (l.take j)
      rw [← HL.out] at h1
      have h2 : (l.take j).length ≤ l.length := by simp; omega
      show L.length ≤ 10000
      omega
    obtain ⟨ad2, cap2, ev2⟩ := own_form HR.out
    subst ev2
    by_cases hlt : j < l.length
    · obtain ⟨gx, rfl⟩ := row_g HH.out.row (by omega)
      have hc := row_cells HH.out.row HBw.out hlt
      have hU := HXA.out j hlt
      obtain ⟨y, hy⟩ : ∃ y, y = l[j] := ⟨_, rfl⟩
      rw [← hy] at hc hU
      have HY : Hid (y = l[j]) := hy
      have HFS : Hid ((l.take (j + 1)).filter (unlike X) = L ++ (if unlike X y then [y] else [])) := by
        show _ = _
        rw [filter_snoc X l j hlt, ← HL.out, ← hy]
      clear hy
      have hji : ((j : Int) < (l.length : Int)) := by omega
      by_cases hne : (j : Int) = A
      · have hb1 : ((j : Int) != A) = false := by simp [hne]
        have HU : Hid (unlike X y = false) := by show _ = _; rw [hU]; simp [hne]
        clear hU hc hne
        go_wp2
        go_roundw
        case rel => exact ⟨j + 1, L, by omega, by simp, by show _ = _; rw [HFS.out, HU.out]; simp, HR, G5, G6, HBw, HZ⟩
        case measure => simp [intOf]; omega
      · have hb1 : ((j : Int) != A) = true := by simp [hne]
        have HU : Hid (unlike X y = true) := by show _ = _; rw [hU]; simp [hne]
        clear hU hne
        obtain ⟨a0, a1, a2, a3, a4, a5, a6, a7, a8⟩ := y
        have p0 : wr.cell? ⟨gx, j * 9, none⟩ = some (.int .u8 a0) := hc 0 _ (by omega) rfl
        have p1 : wr.cell? ⟨gx, j * 9 + 1, none⟩ = some (.string a1) := hc 1 _ (by omega) rfl
        have p2 : wr.cell? ⟨gx, j * 9 + 2, none⟩ = some (.int .i64 a2) := hc 2 _ (by omega) rfl
        have p3 : wr.cell? ⟨gx, j * 9 + 3, none⟩ = some (.int .i64 a3) := hc 3 _ (by omega) rfl
        have p4 : wr.cell? ⟨gx, j * 9 + 4, none⟩ = some (.int .i64 a4) := hc 4 _ (by omega) rfl
        have p5 : wr.cell? ⟨gx, j * 9 + 5, none⟩ = some (.int .i64 a5) := hc 5 _ (by omega) rfl
        have p6 : wr.cell? ⟨gx, j * 9 + 6, none⟩ = some (.int .i64 a6) := hc 6 _ (by omega) rfl
        have p7 : wr.cell? ⟨gx, j * 9 + 7, none⟩ = some (.int .u8 a7) := hc 7 _ (by omega) rfl
        have p8 : wr.cell? ⟨gx, j * 9 + 8, none⟩ = some (.bool a8) := hc 8 _ (by omega) rfl
        clear hc
        go_wp2_with (first
          | (at_builtin; refine push_ob wr ⟨a0, a1, a2, a3, a4, a5, a6, a7, a8⟩ rfl rfl _ _ rfl (w.heap.size + 2) _ L rfl rfl HR.out (by have := HLl.out; omega) HZ.out ?_; intro g4 cap4 w4 hown4 hg4 hat4 hlt4; go_frame)
          | go_in)
        go_roundw
        case rel =>
          have hfar : ∀ b, b < w.heap.size + 2 → w4.heap[b]? = wr.heap[b]? := fun b hb => (hg4.block b (by have := HZ.out; simp; omega) (fun e => by have := (HR.out.lt b e.symm).1; omega)).trans (Below.heap_alloc _ _ _ (by have := HZ.out; omega))
          refine ⟨j + 1, L ++ [⟨a0, a1, a2, a3, a4, a5, a6, a7, a8⟩], by omega, by simp, by show _ = _; rw [HFS.out, HU.out]; simp, by simpa [Hid] using hown4, (hfar _ (by omega)).trans G5.out, (hfar _ (by omega)).trans G6.out, ?_, ?_⟩
          · exact (belowAl HBw.out _).grown hg4 (by have := HZ.out; simp; omega) (fun b e => by have := (HR.out.lt b e).1; omega)
          · have h1 := hg4.size
            have := HZ.out
            simp at h1
            show _ ≤ _
            omega
        case measure => simp [intOf]; omega
    · have hjl : j = l.length := by omega
      subst hjl
      have hji : ¬ ((l.length : Int) < (l.length : Int)) := by omega
      have HLW : Hid (L = l.filter (unlike X)) := by have := HL.out; rw [List.take_length] at this; exact this
      clear HL hlt
      have HM0 : Mid C w pv ev wr rb lim born pv ev sv es (.slice ad2 L.length cap2) L #[.int .u8 k, .string s, .int .i64 u, .int .i64 ((pre.length : Int) + 1), .int .i64 r, .int .i64 t, .int .i64 ow, .int .u8 ph, .bool g] := by
        have hR := HO.out.below HBw.out
        exact ⟨hR.blk, hR.op, hR.oe, HR.out, G5.out, G6.out, KeptC.of_below HBw.out rfl, fun b hb _ _ _ => HBw.out.block b hb, HZ.out, fun b e => Or.inl e, fun b e => Or.inl e, HH.out.lt, HH.out.c0, HH.out.c1, HH.out.c2, HC.out⟩
      have HM : Hid _ := HM0
      clear HM0
      by_cases hs2 : so = 2
      · have hb2 : (so != 2) = false := by simp [hs2]
        have HTK : Hid (takenL l so ⟨k, s, u, (pre.length : Int) + 1, r, t, ow, ph, g⟩ = L) := by
          show _ = _
          rw [← HX.out]
          unfold takenL
          rw [if_pos hs2, List.append_nil]
          exact HLW.out.symm
        clear hs2
        have q1 : wr.cell? ⟨rb, 1, none⟩ = some (.slice adp sv.length cpp) := by rw [← epv]; simp [World.cell?, HM.out.blk]
        have hrlW : rb < wr.heap.size := (Array.getElem?_eq_some_iff.1 HM.out.blk).1
        go_wp2_with (first
          | (at_builtin; refine push_list wr (Value.slice ad2 L.length cap2) rfl rfl _ _ rfl 0 (.slice adp sv.length cpp) sv rfl rfl (by rw [← epv]; exact HM.out.op) (by omega) (Nat.zero_le _) rfl ?_; intro g5 cap5 w5 hown5 hg5 hat5 hlt5
             rw [← epv] at hg5 hat5
             have hrn : pv.ownBlock ≠ some rb := fun e => by obtain ⟨cur, hc⟩ := own_typ HM.out.op rb e; exact ne_typ HM.out.blk hc (by decide) rfl
             have er : w5.heap[rb]? = some (.cells #[.int .i64 lim, pv, ev, .int .i64 born] 151 (0, 0)) := (hg5.block rb (by simp; omega) (fun e => hrn e.symm)).trans ((Below.heap_alloc _ _ _ hrlW).trans HM.out.blk)
             have c3 : w5.cell? ⟨rb, 1, none⟩ = some pv := by simp [World.cell?, er]
             have f3 : w5.frozen? ⟨rb, 1, none⟩ = false := by simp [World.frozen?, er]
             have HM5 : Hid (Mid C w pv ev (w5.setCell ⟨rb, 1, none⟩ (.slice (some ⟨g5, 0, none⟩) (sv.length + 1) cap5)) rb lim born (.slice (some ⟨g5, 0, none⟩) (sv.length + 1) cap5) ev (sv ++ [.slice ad2 L.length cap2]) es (.slice ad2 L.length cap2) (L) #[.int .u8 k, .string s, .int .i64 u, .int .i64 ((pre.length : Int) + 1), .int .i64 r, .int .i64 t, .int .i64 ow, .int .u8 ph, .bool g]) := (HM.out.alloc _).past hg5 hown5 (fun b e => by cases e; exact hat5.imp id (fun e => by simp; omega))
             clear hown5 hg5 hat5 er hrn
             go_frame)
          | go_in)
        generalize w5.setCell ⟨rb, 1, none⟩ (.slice (some ⟨g5, 0, none⟩) (sv.length + 1) cap5) = W6 at *
        have q2 : W6.cell? ⟨rb, 2, none⟩ = some (.slice ade es.length cpe) := by rw [← eev]; simp [World.cell?, HM5.out.blk]
        have hrl6 : rb < W6.heap.size := (Array.getElem?_eq_some_iff.1 HM5.out.blk).1
        obtain ⟨⟨x0, x1, x2, x3, x4, x5, x6, x7, x8⟩, xf⟩ := nine HM5.out.b5
        have hbl6 : w.heap.size < W6.heap.size := by have := HM5.out.sz; omega
        obtain ⟨i1, hi1, y0, y1, y2⟩ := info_parts info42
        have hownE : (W6.drew.alloc (.cells #[.int .u8 so, .int .u8 k, .string s, .int .i64 u, .int .i64 ((pre.length : Int) + 1), .int .i64 r, .int .i64 t, .int .i64 ow, .int .u8 ph, .bool g] 170)).ownsRow 0 170 10 (.slice ade es.length cpe) es.length (es.flatMap evP) := by
          rw [← eev]
          exact (HM5.out.drew.alloc _).oe
        have hcnE := cells_new W6.drew #[.int .u8 so, .int .u8 k, .string s, .int .i64 u, .int .i64 ((pre.length : Int) + 1), .int .i64 r, .int .i64 t, .int .i64 ow, .int .u8 ph, .bool g] 170
        have honeE : ∀ z ∈ [Value.int .u8 so, .int .u8 k, .string s, .int .i64 u, .int .i64 ((pre.length : Int) + 1), .int .i64 r, .int .i64 t, .int .i64 ow, .int .u8 ph, .bool g], z.oneCell' = true := evP_one (so, ⟨k, s, u, (pre.length : Int) + 1, r, t, ow, ph, g⟩)
        have h63 : es.length + 1 ≤ maxLen := by have := HES.out; unfold maxLen; omega
        have hby : (es.length + 1) * 80 ≤ 140737488355328 := by have := HES.out; omega
        have HG7 : Hid (∀ w7, (W6.drew.alloc (.cells #[.int .u8 so, .int .u8 k, .string s, .int .i64 u, .int .i64 ((pre.length : Int) + 1), .int .i64 r, .int .i64 t, .int .i64 ow, .int .u8 ph, .bool g] 170)).grownBy w7 (Value.slice ade es.length cpe).ownBlock → w7.cell? ⟨rb, 2, none⟩ = some ev ∧ w7.frozen? ⟨rb, 2, none⟩ = false) := by
          intro w7 hg7
          have hbk := (HM5.out.drew.alloc (.cells #[.int .u8 so, .int .u8 k, .string s, .int .i64 u, .int .i64 ((pre.length : Int) + 1), .int .i64 r, .int .i64 t, .int .i64 ow, .int .u8 ph, .bool g] 170)).blk
          have er7 := (hg7.block rb (Array.getElem?_eq_some_iff.1 hbk).1 (fun e => by
            obtain ⟨cur, hc⟩ := own_typ hownE rb e.symm
            exact ne_typ hbk hc (by decide) rfl)).trans hbk
          exact ⟨by simp [World.cell?, er7], by simp [World.frozen?, er7]⟩
        clear c3 f3 q1
        go_region_law ((refine step_append_lies _ (by rfl) _ _ 139 (by rfl) 0 170 i1 (.agg #[.int .u8 0, .int .u8 0, .string ⟨#[]⟩, .int .i64 0, .int .i64 0, .int .i64 0, .int .i64 0, .int .i64 0, .int .u8 0, .bool false]) 10 80 Tryz.underlying139 hi1 y0 y1 y2 rfl (by decide) (.slice ade es.length cpe) _ _ (by rfl) hownE ⟨W6.heap.size, 0, none⟩ 1 1 [.int .u8 so, .int .u8 k, .string s, .int .i64 u, .int .i64 ((pre.length : Int) + 1), .int .i64 r, .int .i64 t, .int .i64 ow, .int .u8 ph, .bool g] (by rfl) rfl hcnE honeE (by decide) h63 hby (Nat.zero_le _) _ rfl ?_; intro g7 cap7 w7 hown7 hg7 hat7 hlt7; obtain ⟨c7, f7⟩ := HG7.out w7 hg7))
        all_goals
          have HM7 : Hid (Mid C w pv ev (w7.setCell ⟨rb, 2, none⟩ (.slice (some ⟨g7, 0, none⟩) (es.length + 1) cap7)) rb lim born (.slice (some ⟨g5, 0, none⟩) (sv.length + 1) cap5) (.slice (some ⟨g7, 0, none⟩) (es.length + 1) cap7) (sv ++ [.slice ad2 L.length cap2]) (es ++ [(so, ⟨k, s, u, (pre.length : Int) + 1, r, t, ow, ph, g⟩)]) (.slice ad2 L.length cap2) (L) #[.int .u8 k, .string s, .int .i64 u, .int .i64 ((pre.length : Int) + 1), .int .i64 r, .int .i64 t, .int .i64 ow, .int .u8 ph, .bool g]) :=
            (HM5.out.drew.alloc _).event (by rw [← eev] at hg7; exact hg7) (by rw [List.length_append, evs_snoc]; exact hown7) (fun b e => by
              cases e
              rw [← eev] at hat7
              exact hat7.imp id (fun e => by rw [e]; exact Nat.le_refl _))
          clear hown7 hg7 hat7 c7 f7 hownE hcnE honeE h63 hby q2 x0 x1 x2 x3 x4 x5 x6 x7 x8 xf HG7 HM5
          generalize w7.setCell ⟨rb, 2, none⟩ (.slice (some ⟨g7, 0, none⟩) (es.length + 1) cap7) = W8 at *
          obtain ⟨⟨x0, x1, x2, x3, x4, x5, x6, x7, x8⟩, xf⟩ := nine HM7.out.b5
          obtain ⟨⟨z0, z1, z2, z3, z4, z5, z6, z7, z8⟩, zf⟩ := nine HM7.out.b6
          have hbl8 : w.heap.size + 1 < W8.heap.size := by have := HM7.out.sz; omega
          go_wp2
          refine bodyPost_ret (v := .agg #[.int .u8 k, .string s, .int .i64 u, .int .i64 ((pre.length : Int) + 1), .int .i64 r, .int .i64 t, .int .i64 ow, .int .u8 ph, .bool g]) (by simp [results, Tryz.results119, go_sem, z0, z1, z2, z3, z4, z5, z6, z7, z8]) rfl ⟨rfl, ?_⟩
          rw [← set9_def]
          have hfin := HM7.out.fin HO.out (.int .u8 k) (.string s) (.int .i64 u) (.int .i64 ((pre.length : Int) + 1)) (.int .i64 r) (.int .i64 t) (.int .i64 ow) (.int .u8 ph) (.bool g)
          rw [HTK.out]
          exact ⟨⟨_, _, _, hfin.1⟩, hfin.2⟩
      · have hb2 : (so != 2) = true := by simp [hs2]
        have HTK : Hid (takenL l so ⟨k, s, u, (pre.length : Int) + 1, r, t, ow, ph, g⟩ = L ++ [⟨k, s, u, (pre.length : Int) + 1, r, t, ow, ph, g⟩]) := by
          show _ = _
          unfold takenL
          rw [if_neg hs2, ← HX.out, ← HLW.out]
        clear hs2
        obtain ⟨⟨x0, x1, x2, x3, x4, x5, x6, x7, x8⟩, xf⟩ := nine G5.out
        have hbw : w.heap.size < wr.heap.size := by have := HZ.out; omega
        have q1w : wr.cell? ⟨rb, 1, none⟩ = some (.slice adp sv.length cpp) := by rw [← epv]; simp [World.cell?, HM.out.blk]
        go_wp2_with (first
          | (at_builtin; refine push_ob wr ⟨k, s, u, (pre.length : Int) + 1, r, t, ow, ph, g⟩ rfl rfl _ _ rfl (w.heap.size + 2) _ L rfl rfl HR.out (by have := HLl.out; omega) HZ.out ?_; intro g4 cap4 w4 hown4 hg4 hat4 hlt4
             have HMq := (HM.out.alloc (.cells #[.int .u8 k, .string s, .int .i64 u, .int .i64 ((pre.length : Int) + 1), .int .i64 r, .int .i64 t, .int .i64 ow, .int .u8 ph, .bool g] 84)).row hg4 HR.out hown4 (fun b e => by have := own_typ (HR.out.alloc (.cells #[.int .u8 k, .string s, .int .i64 u, .int .i64 ((pre.length : Int) + 1), .int .i64 r, .int .i64 t, .int .i64 ow, .int .u8 ph, .bool g] 84)) b e; exact this)
             have HM : Hid _ := HMq
             have q1 : w4.cell? ⟨rb, 1, none⟩ = some (.slice adp sv.length cpp) := by rw [← epv]; simp [World.cell?, HM.out.blk]
             have hrlW : rb < w4.heap.size := (Array.getElem?_eq_some_iff.1 HM.out.blk).1
             clear hown4 hg4 hat4 hlt4 HMq q1w x0 x1 x2 x3 x4 x5 x6 x7 x8 xf
             go_frame)
          | (at_builtin; refine push_list w4 (Value.slice (some ⟨g4, 0, none⟩) (L.length + 1) cap4) rfl rfl _ _ rfl 0 (.slice adp sv.length cpp) sv rfl rfl (by rw [← epv]; exact HM.out.op) (by omega) (Nat.zero_le _) rfl ?_; intro g5 cap5 w5 hown5 hg5 hat5 hlt5
             rw [← epv] at hg5 hat5
             have hrn : pv.ownBlock ≠ some rb := fun e => by obtain ⟨cur, hc⟩ := own_typ HM.out.op rb e; exact ne_typ HM.out.blk hc (by decide) rfl
             have er : w5.heap[rb]? = some (.cells #[.int .i64 lim, pv, ev, .int .i64 born] 151 (0, 0)) := (hg5.block rb (by simp; omega) (fun e => hrn e.symm)).trans ((Below.heap_alloc _ _ _ hrlW).trans HM.out.blk)
             have c3 : w5.cell? ⟨rb, 1, none⟩ = some pv := by simp [World.cell?, er]
             have f3 : w5.frozen? ⟨rb, 1, none⟩ = false := by simp [World.frozen?, er]
             have HM5 : Hid (Mid C w pv ev (w5.setCell ⟨rb, 1, none⟩ (.slice (some ⟨g5, 0, none⟩) (sv.length + 1) cap5)) rb lim born (.slice (some ⟨g5, 0, none⟩) (sv.length + 1) cap5) ev (sv ++ [.slice (some ⟨g4, 0, none⟩) (L.length + 1) cap4]) es (.slice (some ⟨g4, 0, none⟩) (L.length + 1) cap4) (L ++ [⟨k, s, u, (pre.length : Int) + 1, r, t, ow, ph, g⟩]) #[.int .u8 k, .string s, .int .i64 u, .int .i64 ((pre.length : Int) + 1), .int .i64 r, .int .i64 t, .int .i64 ow, .int .u8 ph, .bool g]) := (HM.out.alloc _).past hg5 hown5 (fun b e => by cases e; exact hat5.imp id (fun e => by simp; omega))
             clear hown5 hg5 hat5 er hrn
             go_frame)
          | go_in)
        generalize w5.setCell ⟨rb, 1, none⟩ (.slice (some ⟨g5, 0, none⟩) (sv.length + 1) cap5) = W6 at *
        have q2 : W6.cell? ⟨rb, 2, none⟩ = some (.slice ade es.length cpe) := by rw [← eev]; simp [World.cell?, HM5.out.blk]
        have hrl6 : rb < W6.heap.size := (Array.getElem?_eq_some_iff.1 HM5.out.blk).1
        obtain ⟨⟨x0, x1, x2, x3, x4, x5, x6, x7, x8⟩, xf⟩ := nine HM5.out.b5
        have hbl6 : w.heap.size < W6.heap.size := by have := HM5.out.sz; omega
        obtain ⟨i1, hi1, y0, y1, y2⟩ := info_parts info42
        have hownE : (W6.drew.alloc (.cells #[.int .u8 so, .int .u8 k, .string s, .int .i64 u, .int .i64 ((pre.length : Int) + 1), .int .i64 r, .int .i64 t, .int .i64 ow, .int .u8 ph, .bool g] 170)).ownsRow 0 170 10 (.slice ade es.length cpe) es.length (es.flatMap evP) := by
          rw [← eev]
          exact (HM5.out.drew.alloc _).oe
        have hcnE := cells_new W6.drew #[.int .u8 so, .int .u8 k, .string s, .int .i64 u, .int .i64 ((pre.length : Int) + 1), .int .i64 r, .int .i64 t, .int .i64 ow, .int .u8 ph, .bool g] 170
        have honeE : ∀ z ∈ [Value.int .u8 so, .int .u8 k, .string s, .int .i64 u, .int .i64 ((pre.length : Int) + 1), .int .i64 r, .int .i64 t, .int .i64 ow, .int .u8 ph, .bool g], z.oneCell' = true := evP_one (so, ⟨k, s, u, (pre.length : Int) + 1, r, t, ow, ph, g⟩)
        have h63 : es.length + 1 ≤ maxLen := by have := HES.out; unfold maxLen; omega
        have hby : (es.length + 1) * 80 ≤ 140737488355328 := by have := HES.out; omega
        have HG7 : Hid (∀ w7, (W6.drew.alloc (.cells #[.int .u8 so, .int .u8 k, .string s, .int .i64 u, .int .i64 ((pre.length : Int) + 1), .int .i64 r, .int .i64 t, .int .i64 ow, .int .u8 ph, .bool g] 170)).grownBy w7 (Value.slice ade es.length cpe).ownBlock → w7.cell? ⟨rb, 2, none⟩ = some ev ∧ w7.frozen? ⟨rb, 2, none⟩ = false) := by
          intro w7 hg7
          have hbk := (HM5.out.drew.alloc (.cells #[.int .u8 so, .int .u8 k, .string s, .int .i64 u, .int .i64 ((pre.length : Int) + 1), .int .i64 r, .int .i64 t, .int .i64 ow, .int .u8 ph, .bool g] 170)).blk
          have er7 := (hg7.block rb (Array.getElem?_eq_some_iff.1 hbk).1 (fun e => by
            obtain ⟨cur, hc⟩ := own_typ hownE rb e.symm
            exact ne_typ hbk hc (by decide) rfl)).trans hbk
          exact ⟨by simp [World.cell?, er7], by simp [World.frozen?, er7]⟩
        clear c3 f3 q1
        go_region_law ((refine step_append_lies _ (by rfl) _ _ 139 (by rfl) 0 170 i1 (.agg #[.int .u8 0, .int .u8 0, .string ⟨#[]⟩, .int .i64 0, .int .i64 0, .int .i64 0, .int .i64 0, .int .i64 0, .int .u8 0, .bool false]) 10 80 Tryz.underlying139 hi1 y0 y1 y2 rfl (by decide) (.slice ade es.length cpe) _ _ (by rfl) hownE ⟨W6.heap.size, 0, none⟩ 1 1 [.int .u8 so, .int .u8 k, .string s, .int .i64 u, .int .i64 ((pre.length : Int) + 1), .int .i64 r, .int .i64 t, .int .i64 ow, .int .u8 ph, .bool g] (by rfl) rfl hcnE honeE (by decide) h63 hby (Nat.zero_le _) _ rfl ?_; intro g7 cap7 w7 hown7 hg7 hat7 hlt7; obtain ⟨c7, f7⟩ := HG7.out w7 hg7))
        all_goals
          have HM7 : Hid (Mid C w pv ev (w7.setCell ⟨rb, 2, none⟩ (.slice (some ⟨g7, 0, none⟩) (es.length + 1) cap7)) rb lim born (.slice (some ⟨g5, 0, none⟩) (sv.length + 1) cap5) (.slice (some ⟨g7, 0, none⟩) (es.length + 1) cap7) (sv ++ [.slice (some ⟨g4, 0, none⟩) (L.length + 1) cap4]) (es ++ [(so, ⟨k, s, u, (pre.length : Int) + 1, r, t, ow, ph, g⟩)]) (.slice (some ⟨g4, 0, none⟩) (L.length + 1) cap4) (L ++ [⟨k, s, u, (pre.length : Int) + 1, r, t, ow, ph, g⟩]) #[.int .u8 k, .string s, .int .i64 u, .int .i64 ((pre.length : Int) + 1), .int .i64 r, .int .i64 t, .int .i64 ow, .int .u8 ph, .bool g]) :=
            (HM5.out.drew.alloc _).event (by rw [← eev] at hg7; exact hg7) (by rw [List.length_append, evs_snoc]; exact hown7) (fun b e => by
              cases e
              rw [← eev] at hat7
              exact hat7.imp id (fun e => by rw [e]; exact Nat.le_refl _))
          clear hown7 hg7 hat7 c7 f7 hownE hcnE honeE h63 hby q2 x0 x1 x2 x3 x4 x5 x6 x7 x8 xf HG7 HM5
          generalize w7.setCell ⟨rb, 2, none⟩ (.slice (some ⟨g7, 0, none⟩) (es.length + 1) cap7) = W8 at *
          obtain ⟨⟨x0, x1, x2, x3, x4, x5, x6, x7, x8⟩, xf⟩ := nine HM7.out.b5
          obtain ⟨⟨z0, z1, z2, z3, z4, z5, z6, z7, z8⟩, zf⟩ := nine HM7.out.b6
          have hbl8 : w.heap.size + 1 < W8.heap.size := by have := HM7.out.sz; omega
          go_wp2
          refine bodyPost_ret (v := .agg #[.int .u8 k, .string s, .int .i64 u, .int .i64 ((pre.length : Int) + 1), .int .i64 r, .int .i64 t, .int .i64 ow, .int .u8 ph, .bool g]) (by simp [results, Tryz.results119, go_sem, z0, z1, z2, z3, z4, z5, z6, z7, z8]) rfl ⟨rfl, ?_⟩
          rw [← set9_def]
          have hfin := HM7.out.fin HO.out (.int .u8 k) (.string s) (.int .i64 u) (.int .i64 ((pre.length : Int) + 1)) (.int .i64 r) (.int .i64 t) (.int .i64 ow) (.int .u8 ph) (.bool g)
          rw [HTK.out]
          exact ⟨⟨_, _, _, hfin.1⟩, hfin.2⟩
end

end Go.Proofs.YtdgfjneapialdaaGreatDoor.S
