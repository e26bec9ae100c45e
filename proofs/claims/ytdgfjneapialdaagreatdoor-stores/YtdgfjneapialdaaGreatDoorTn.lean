import Derived.Test.YtdgfjneapialdaaGreatDoorTm
import Derived.Test.YtdgfjneapialdaaGreatDoorTg
import Derived.BigQuiet
import Derived.Deep.QuietTactic
namespace Go.Proofs.YtdgfjneapialdaaGreatDoor.S
open Go Go.RowKit Go.Maps

theorem ordL_mem {l : List Ob} {P : Ob → Prop} (h : ∀ x ∈ l, P x) (k : Nat) : ∀ x ∈ ordL (l.take k), P x := fun x hx => h x (List.mem_of_mem_take ((ordL_perm _).mem_iff.1 hx))
theorem insL_none {x : Ob} {out : List Ob} {k : Nat} (hk : k = out.length) (h : ∀ (j : Nat) (h : j < out.length), j < k → aheadB out[j] x = true) : insL x out = out.take k ++ [x] ++ out.drop k := insL_is h (Or.inl (by omega))

set_option maxRecDepth 100000 in
set_option maxHeartbeats 2000000 in
theorem ordered_any (w : World) (base : Nat) (v : Value) (l : List Ob) (hrow : w.ownsRow base 84 9 v l.length (flatO l)) (hl : l.length ≤ 1000) (hkd : ∀ x ∈ l, x.kind = 0 ∨ x.kind = 1) :
    Calls Tryz.prog 85 #[v] w fun e w' => ∃ v', e = .returned v' ∧ w'.ownsRow w.heap.size 84 9 v' (ordL l).length (flatO (ordL l)) ∧ Below w.heap.size w w' := by
  obtain ⟨adl, cpl, rfl⟩ := own_form hrow
  have HR0 : Hid (w.ownsRow base 84 9 (.slice adl l.length cpl) l.length (flatO l)) := hrow
  have HKD : Hid (∀ x ∈ l, x.kind = 0 ∨ x.kind = 1) := hkd
  clear hrow hkd
  go_enter Tryz.func85, Tryz.ntmps85
  go_wp2
  go_loopw [3, 4, 5, 6] (fun vo iv _ _ wr => ∃ i : Nat, i ≤ l.length ∧ iv = .int .i64 i ∧ Hid (wr.ownsRow w.heap.size 84 9 vo (ordL (l.take i)).length (flatO (ordL (l.take i)))) ∧ Hid (Below w.heap.size w wr)) (fun _ iv _ _ _ => l.length - (intOf iv).toNat)
  case atStart => exact ⟨0, Nat.zero_le _, rfl, World.ownsRow_nil _ _ _ _, Below.refl _ _⟩
  case round =>
    obtain ⟨i, hi, rfl, HR, HBw⟩ := hrel
    obtain ⟨O, hO⟩ : ∃ O, O = ordL (l.take i) := ⟨_, rfl⟩
    rw [← hO] at HR
    have HO : Hid (O = ordL (l.take i)) := hO
    have hOl : O.length ≤ 1000 := by rw [hO, ordL_len]; simp; omega
    have HOk : Hid (∀ x ∈ O, x.kind = 0 ∨ x.kind = 1) := by rw [hO]; exact ordL_mem HKD.out i
    clear hO
    obtain ⟨ado, cpo, eo⟩ := own_form HR.out
    subst eo
    by_cases hlt : i < l.length
    · obtain ⟨gl, rfl⟩ := row_g HR0.out (by omega)
      have hcl := row_cells HR0.out HBw.out hlt
      obtain ⟨Y, hY⟩ : ∃ Y, Y = l[i] := ⟨_, rfl⟩
      rw [← hY] at hcl
      have HNX : Hid (ordL (l.take (i + 1)) = insL Y O) := by show _ = _; rw [ordL_take l i hlt, ← hY, ← HO.out]
      have hii : ((i : Int) < (l.length : Int)) := by omega
      have HLT : Hid (i < l.length) := hlt
      have hgll : gl < w.heap.size := own_lt HR0.out rfl
      have HCL : Hid (∀ wx : World, Below w.heap.size w wx → ∀ (t : Nat) (z : Value), t < 9 → (Y.arr.toList)[t]? = some z → wx.cell? ⟨gl, i * 9 + t, none⟩ = some z) := by
        intro wx hb
        have := row_cells HR0.out hb hlt
        rw [← hY] at this
        exact this
      obtain ⟨y0, y1, y2, y3, y4, y5, y6, y7, y8⟩ := Y
      have c0 : wr.cell? ⟨gl, i * 9, none⟩ = some (.int .u8 y0) := hcl 0 _ (by omega) rfl
      have c1 : wr.cell? ⟨gl, i * 9 + 1, none⟩ = some (.string y1) := hcl 1 _ (by omega) rfl
      have c2 : wr.cell? ⟨gl, i * 9 + 2, none⟩ = some (.int .i64 y2) := hcl 2 _ (by omega) rfl
      have c3 : wr.cell? ⟨gl, i * 9 + 3, none⟩ = some (.int .i64 y3) := hcl 3 _ (by omega) rfl
      have c4 : wr.cell? ⟨gl, i * 9 + 4, none⟩ = some (.int .i64 y4) := hcl 4 _ (by omega) rfl
      have c5 : wr.cell? ⟨gl, i * 9 + 5, none⟩ = some (.int .i64 y5) := hcl 5 _ (by omega) rfl
      have c6 : wr.cell? ⟨gl, i * 9 + 6, none⟩ = some (.int .i64 y6) := hcl 6 _ (by omega) rfl
      have c7 : wr.cell? ⟨gl, i * 9 + 7, none⟩ = some (.int .u8 y7) := hcl 7 _ (by omega) rfl
      have c8 : wr.cell? ⟨gl, i * 9 + 8, none⟩ = some (.bool y8) := hcl 8 _ (by omega) rfl
      clear hcl hY
      have hncap := row_in HR.out
      generalize wr = wo at *
      go_wp2
      go_loopw [5] (fun kv wr => ∃ k : Nat, k ≤ O.length ∧ kv = .int .i64 k ∧ Hid (∀ (j : Nat) (h : j < O.length), j < k → aheadB O[j] ⟨y0, y1, y2, y3, y4, y5, y6, y7, y8⟩ = true) ∧ Hid (Below wo.heap.size wo wr)) (fun kv _ => O.length - (intOf kv).toNat)
      case atStart => exact ⟨0, Nat.zero_le _, rfl, (fun j h hj => by omega), Below.refl _ _⟩
      case round =>
        obtain ⟨k, hk, rfl, HA, HB2⟩ := hrel
        have HBW : Hid (Below w.heap.size w wr) := HBw.out.trans (HB2.out.mono HBw.out.size)
        have hcY : ∀ (t : Nat) (z : Value), t < 9 → ((Ob.mk y0 y1 y2 y3 y4 y5 y6 y7 y8).arr.toList)[t]? = some z → wr.cell? ⟨gl, i * 9 + t, none⟩ = some z := by
          exact HCL.out wr HBW.out
        have HRo : Hid (wr.ownsRow w.heap.size 84 9 (.slice ado O.length cpo) O.length (flatO O)) := row_below HR.out HB2.out
        by_cases hkl : k < O.length
        · obtain ⟨go, rfl⟩ := row_g HR.out (by omega)
          have hco := row_cells HR.out HB2.out hkl
          have hX0 := HOk.out O[k] (List.getElem_mem hkl)
          obtain ⟨X, hX⟩ : ∃ X, X = O[k] := ⟨_, rfl⟩
          rw [← hX] at hco hX0
          have HX : Hid (X = O[k]) := hX
          have hgol : go < wo.heap.size := own_lt HR.out rfl
          clear hX
          obtain ⟨x0, x1, x2, x3, x4, x5, x6, x7, x8⟩ := X
          have hX0' : x0 = 0 ∨ x0 = 1 := hX0
          have HNK : Hid (∀ w2, Below wr.drew.heap.size wr.drew w2 → (w2.cell? ⟨go, k * 9, none⟩ = some (.int .u8 x0) ∧ w2.cell? ⟨go, k * 9 + 1, none⟩ = some (.string x1) ∧ w2.cell? ⟨go, k * 9 + 2, none⟩ = some (.int .i64 x2) ∧ w2.cell? ⟨go, k * 9 + 3, none⟩ = some (.int .i64 x3) ∧ w2.cell? ⟨go, k * 9 + 4, none⟩ = some (.int .i64 x4) ∧ w2.cell? ⟨go, k * 9 + 5, none⟩ = some (.int .i64 x5) ∧ w2.cell? ⟨go, k * 9 + 6, none⟩ = some (.int .i64 x6) ∧ w2.cell? ⟨go, k * 9 + 7, none⟩ = some (.int .u8 x7) ∧ w2.cell? ⟨go, k * 9 + 8, none⟩ = some (.bool x8) ∧ w2.cell? ⟨gl, i * 9, none⟩ = some (.int .u8 y0) ∧ w2.cell? ⟨gl, i * 9 + 1, none⟩ = some (.string y1) ∧ w2.cell? ⟨gl, i * 9 + 2, none⟩ = some (.int .i64 y2) ∧ w2.cell? ⟨gl, i * 9 + 3, none⟩ = some (.int .i64 y3) ∧ w2.cell? ⟨gl, i * 9 + 4, none⟩ = some (.int .i64 y4) ∧ w2.cell? ⟨gl, i * 9 + 5, none⟩ = some (.int .i64 y5) ∧ w2.cell? ⟨gl, i * 9 + 6, none⟩ = some (.int .i64 y6) ∧ w2.cell? ⟨gl, i * 9 + 7, none⟩ = some (.int .u8 y7) ∧ w2.cell? ⟨gl, i * 9 + 8, none⟩ = some (.bool y8))) := by
            intro w2 hb
            have e1 : ∀ t, w2.cell? ⟨go, t, none⟩ = wr.cell? ⟨go, t, none⟩ := fun t => hb.cell (p := ⟨go, t, none⟩) (Nat.lt_of_lt_of_le hgol HB2.out.size)
            have e2 : ∀ t, w2.cell? ⟨gl, t, none⟩ = wr.cell? ⟨gl, t, none⟩ := fun t => hb.cell (p := ⟨gl, t, none⟩) (Nat.lt_of_lt_of_le hgll HBW.out.size)
            simp only [e1, e2]
            refine ⟨hco 0 _ (by omega) rfl, hco 1 _ (by omega) rfl, hco 2 _ (by omega) rfl, hco 3 _ (by omega) rfl, hco 4 _ (by omega) rfl, hco 5 _ (by omega) rfl, hco 6 _ (by omega) rfl, hco 7 _ (by omega) rfl, hco 8 _ (by omega) rfl, hcY 0 _ (by omega) rfl, hcY 1 _ (by omega) rfl, hcY 2 _ (by omega) rfl, hcY 3 _ (by omega) rfl, hcY 4 _ (by omega) rfl, hcY 5 _ (by omega) rfl, hcY 6 _ (by omega) rfl, hcY 7 _ (by omega) rfl, hcY 8 _ (by omega) rfl⟩
          have hs0 := HNK.out wr.drew (Below.refl _ _)
          have hah := ahead_any x0 x1 x2 x3 x4 x5 x6 x7 x8 y0 y1 y2 y3 y4 y5 y6 y7 y8 wr.drew hX0'
          have hkk : ((k : Int) < (O.length : Int)) := by omega
          have hkd : decide ((k : Int) < (O.length : Int)) = true := decide_eq_true hkk
          obtain ⟨ab, hab⟩ : ∃ ab, ab = aheadB ⟨x0, x1, x2, x3, x4, x5, x6, x7, x8⟩ ⟨y0, y1, y2, y3, y4, y5, y6, y7, y8⟩ := ⟨_, rfl⟩
          rw [← hab] at hah
          have HAB : Hid (ab = aheadB ⟨x0, x1, x2, x3, x4, x5, x6, x7, x8⟩ ⟨y0, y1, y2, y3, y4, y5, y6, y7, y8⟩) := hab
          clear hab hX0 hX0' hco hcY c0 c1 c2 c3 c4 c5 c6 c7 c8
          go_wp2_with fail
          go_region_held (fun w2 => w2.cell? ⟨go, k * 9, none⟩ = some (.int .u8 x0) ∧ w2.cell? ⟨go, k * 9 + 1, none⟩ = some (.string x1) ∧ w2.cell? ⟨go, k * 9 + 2, none⟩ = some (.int .i64 x2) ∧ w2.cell? ⟨go, k * 9 + 3, none⟩ = some (.int .i64 x3) ∧ w2.cell? ⟨go, k * 9 + 4, none⟩ = some (.int .i64 x4) ∧ w2.cell? ⟨go, k * 9 + 5, none⟩ = some (.int .i64 x5) ∧ w2.cell? ⟨go, k * 9 + 6, none⟩ = some (.int .i64 x6) ∧ w2.cell? ⟨go, k * 9 + 7, none⟩ = some (.int .u8 x7) ∧ w2.cell? ⟨go, k * 9 + 8, none⟩ = some (.bool x8) ∧ w2.cell? ⟨gl, i * 9, none⟩ = some (.int .u8 y0) ∧ w2.cell? ⟨gl, i * 9 + 1, none⟩ = some (.string y1) ∧ w2.cell? ⟨gl, i * 9 + 2, none⟩ = some (.int .i64 y2) ∧ w2.cell? ⟨gl, i * 9 + 3, none⟩ = some (.int .i64 y3) ∧ w2.cell? ⟨gl, i * 9 + 4, none⟩ = some (.int .i64 y4) ∧ w2.cell? ⟨gl, i * 9 + 5, none⟩ = some (.int .i64 y5) ∧ w2.cell? ⟨gl, i * 9 + 6, none⟩ = some (.int .i64 y6) ∧ w2.cell? ⟨gl, i * 9 + 7, none⟩ = some (.int .u8 y7) ∧ w2.cell? ⟨gl, i * 9 + 8, none⟩ = some (.bool y8)) (assumption)
            (first | (go_at_call 149; refine hah.mono ?_; rintro e w3 ⟨rfl, hb3⟩; have hs3 := HNK.out w3 hb3; have HB3 : Hid (Below wr.drew.heap.size wr.drew w3) := hb3; clear hb3))
          have HB3w : Hid (Below wr.heap.size wr w3) := (Below.refl _ _).drew.trans HB3.out
          clear hs0 hs3 hah
          cases ab with
          | true =>
            go_wp2
            go_roundw
            case rel =>
              refine ⟨k + 1, by omega, by simp, fun j h hj => ?_, HB2.out.trans (HB3w.out.mono HB2.out.size)⟩
              by_cases e : j < k
              · exact HA.out j h e
              · have ej : j = k := by omega
                subst ej
                rw [← HX.out]
                exact HAB.out.symm
            case measure => simp [intOf]; omega
          | false =>
            have HBX : Hid (Below w.heap.size w w3) := HBW.out.trans (HB3w.out.mono HBW.out.size)
            have HK : Hid (k ≤ O.length) := hk
            have HGO : Hid (go < w3.heap.size) := Nat.lt_of_lt_of_le hgol (Nat.le_trans HB2.out.size HB3w.out.size)
            have HCO : Hid (∀ (j : Nat) (z : Value), (flatO O)[j]? = some z → w3.cell? ⟨go, j, none⟩ = some z) := by
              intro j z hz
              have h1 := (row_below HRo.out HB3w.out).cells (g := go) rfl j z hz
              rwa [Addr.add_lit, Nat.zero_add] at h1
            have hkc : k ≤ cpo := Nat.le_trans HK.out hncap.1
            have HTK1 : Hid ((O.take k).length = k) := by show _ = _; rw [List.length_take]; have := HK.out; omega
            have HDK1 : Hid ((O.drop k).length = O.length - k) := by show _ = _; rw [List.length_drop]
            have hcY := HCL.out w3 HBX.out
            have c0 : w3.cell? ⟨gl, i * 9, none⟩ = some (.int .u8 y0) := hcY 0 _ (by omega) rfl
            have c1 : w3.cell? ⟨gl, i * 9 + 1, none⟩ = some (.string y1) := hcY 1 _ (by omega) rfl
            have c2 : w3.cell? ⟨gl, i * 9 + 2, none⟩ = some (.int .i64 y2) := hcY 2 _ (by omega) rfl
            have c3 : w3.cell? ⟨gl, i * 9 + 3, none⟩ = some (.int .i64 y3) := hcY 3 _ (by omega) rfl
            have c4 : w3.cell? ⟨gl, i * 9 + 4, none⟩ = some (.int .i64 y4) := hcY 4 _ (by omega) rfl
            have c5 : w3.cell? ⟨gl, i * 9 + 5, none⟩ = some (.int .i64 y5) := hcY 5 _ (by omega) rfl
            have c6 : w3.cell? ⟨gl, i * 9 + 6, none⟩ = some (.int .i64 y6) := hcY 6 _ (by omega) rfl
            have c7 : w3.cell? ⟨gl, i * 9 + 7, none⟩ = some (.int .u8 y7) := hcY 7 _ (by omega) rfl
            have c8 : w3.cell? ⟨gl, i * 9 + 8, none⟩ = some (.bool y8) := hcY 8 _ (by omega) rfl
            clear hcY
            have HRX : Hid (w3.ownsRow w.heap.size 84 9 (.slice (some ⟨go, 0, none⟩) O.length cpo) O.length (flatO O)) := row_below HRo.out HB3w.out
            have HNIL : Hid (w3.ownsRow w3.heap.size 84 9 (.slice none 0 0) (List.length ([] : List Ob)) (flatO [])) := World.ownsRow_nil _ _ _ _
            have HINS : Hid (insL ⟨y0, y1, y2, y3, y4, y5, y6, y7, y8⟩ O = (O.take k ++ [Ob.mk y0 y1 y2 y3 y4 y5 y6 y7 y8]) ++ O.drop k) := insL_is HA.out (Or.inr ⟨hkl, by rw [← HX.out]; exact HAB.out.symm⟩)
            go_upto_region 10 with (first
              | (at_builtin; refine append_part rfl _ _ rfl w3.heap.size (.slice none 0 0) (Value.slice (some ⟨go, 0, none⟩) k cpo) [] (O.take k) rfl rfl HNIL.out (Or.inr ⟨go, 0, cpo, by rw [HTK1.out], fun j z hz => by rw [Nat.zero_add]; exact HCO.out j z (by rw [← flatO_take] at hz; have := (List.getElem?_eq_some_iff.1 hz).1; rw [List.getElem?_take_of_lt (by rw [List.length_take] at this; omega)] at hz; exact hz)⟩) (by have := HTK1.out; simp; omega) (Nat.le_refl _) ?_; intro v1 w4 hown1 hg1
                 obtain ⟨ad1, cap1, e1⟩ := own_form hown1
                 rw [List.nil_append] at hown1
                 rw [List.nil_append, HTK1.out] at e1
                 subst e1
                 have HO1 : Hid (w4.ownsRow w3.heap.size 84 9 (.slice ad1 k cap1) (O.take k).length (flatO (O.take k))) := hown1
                 have HB4 : Hid (Below w3.heap.size w3 w4) := (Below.refl _ _).grown hg1 (Nat.le_refl _) (fun b e => by cases e)
                 have hcY := HCL.out w4 (HBX.out.trans (HB4.out.mono HBX.out.size))
                 have d0 : w4.cell? ⟨gl, i * 9, none⟩ = some (.int .u8 y0) := hcY 0 _ (by omega) rfl
                 have d1 : w4.cell? ⟨gl, i * 9 + 1, none⟩ = some (.string y1) := hcY 1 _ (by omega) rfl
                 have d2 : w4.cell? ⟨gl, i * 9 + 2, none⟩ = some (.int .i64 y2) := hcY 2 _ (by omega) rfl
                 have d3 : w4.cell? ⟨gl, i * 9 + 3, none⟩ = some (.int .i64 y3) := hcY 3 _ (by omega) rfl
                 have d4 : w4.cell? ⟨gl, i * 9 + 4, none⟩ = some (.int .i64 y4) := hcY 4 _ (by omega) rfl
                 have d5 : w4.cell? ⟨gl, i * 9 + 5, none⟩ = some (.int .i64 y5) := hcY 5 _ (by omega) rfl
                 have d6 : w4.cell? ⟨gl, i * 9 + 6, none⟩ = some (.int .i64 y6) := hcY 6 _ (by omega) rfl
                 have d7 : w4.cell? ⟨gl, i * 9 + 7, none⟩ = some (.int .u8 y7) := hcY 7 _ (by omega) rfl
                 have d8 : w4.cell? ⟨gl, i * 9 + 8, none⟩ = some (.bool y8) := hcY 8 _ (by omega) rfl
                 have hgl4 : gl < w4.heap.size := Nat.lt_of_lt_of_le (Nat.lt_of_lt_of_le hgll HBX.out.size) HB4.out.size
                 clear hown1 hg1 hcY
                 go_frame)
              | go_in)
            go_upto_region 11 with (first
              | (at_builtin; refine push_obn w4 ⟨y0, y1, y2, y3, y4, y5, y6, y7, y8⟩ rfl rfl _ _ rfl w3.heap.size _ (O.take k) k HTK1.out rfl rfl HO1.out (by omega) HB4.out.size ?_; intro g5 cap5 w5 hown5 hg5 hlt5
                 have HO5 : Hid (w5.ownsRow w3.heap.size 84 9 (.slice (some ⟨g5, 0, none⟩) (k + 1) cap5) (O.take k ++ [Ob.mk y0 y1 y2 y3 y4 y5 y6 y7 y8]).length (flatO (O.take k ++ [Ob.mk y0 y1 y2 y3 y4 y5 y6 y7 y8]))) := hown5
                 have HB5 : Hid (Below w3.heap.size w3 w5) := (HB4.out.alloc HB4.out.size _).grown hg5 (by have := HB4.out.size; simp; omega) (fun b e => (HO1.out.lt b e).1)
                 clear hown5 hg5 hlt5
                 go_frame)
              | go_in)
            go_wp2_with (first
              | (at_builtin; refine append_part rfl _ _ rfl w3.heap.size (.slice (some ⟨g5, 0, none⟩) (k + 1) cap5) (Value.slice (some ⟨go, k * 9, none⟩) (O.length - k) (cpo - k)) (O.take k ++ [Ob.mk y0 y1 y2 y3 y4 y5 y6 y7 y8]) (O.drop k) rfl rfl HO5.out (Or.inr ⟨go, k * 9, cpo - k, by rw [HDK1.out], fun j z hz => (HB5.out.cell (p := ⟨go, k * 9 + j, none⟩) HGO.out).trans (HCO.out (k * 9 + j) z (by rw [← flatO_drop, List.getElem?_drop] at hz; exact hz))⟩) (by have := HTK1.out; have := HDK1.out; simp; omega) HB5.out.size ?_; intro v6 w6 hown6 hg6
                 obtain ⟨ad6, cap6, e6⟩ := own_form hown6
                 rw [← HINS.out] at hown6 e6
                 rw [insL_len] at e6
                 subst e6
                 have HO6 : Hid (w6.ownsRow w3.heap.size 84 9 (.slice ad6 (O.length + 1) cap6) (insL ⟨y0, y1, y2, y3, y4, y5, y6, y7, y8⟩ O).length (flatO (insL ⟨y0, y1, y2, y3, y4, y5, y6, y7, y8⟩ O))) := hown6
                 have HB6 : Hid (Below w3.heap.size w3 w6) := HB5.out.grown hg6 HB5.out.size (fun b e => (HO5.out.lt b e).1)
                 clear hown6 hg6
                 go_frame)
              | go_in)
            go_roundw
            case rel => exact ⟨i + 1, HLT.out, by simp, by rw [HNX.out, insL_len]; have := HO6.out; rw [insL_len] at this; exact own_mono this HBX.out.size, HBX.out.trans (HB6.out.mono HBX.out.size)⟩
            case measure => have := HLT.out; simp [intOf]; omega
        · have HKE : Hid (k = O.length) := by show _ = _; omega
          obtain rfl : k = O.length := HKE.out
          have HINS : Hid (insL ⟨y0, y1, y2, y3, y4, y5, y6, y7, y8⟩ O = O ++ [Ob.mk y0 y1 y2 y3 y4 y5 y6 y7 y8]) := by
            show _ = _
            rw [insL_none rfl HA.out, List.take_length, List.drop_length, List.append_nil]
          clear c0 c1 c2 c3 c4 c5 c6 c7 c8 hcY hkl HKE
          go_wp2_with fail
          go_quiet (fail)
          have HBX : Hid (Below w.heap.size w (wr.drewN nq)) := belowDN HBW.out nq
          have HRq : Hid ((wr.drewN nq).ownsRow w.heap.size 84 9 (.slice ado O.length cpo) O.length (flatO O)) := own_drewN HRo.out nq
          generalize wr.drewN nq = wq at *
          rcases HRq.out.2 with ⟨h1, h2⟩ | ⟨go, cap', cur, h1, _⟩
          · have hO0 : O = [] := List.length_eq_zero_iff.1 h2
            obtain ⟨hn1, hn2⟩ : ado = none ∧ cpo = 0 := by injection h1 with p q r; exact ⟨p, r⟩
            clear h1 h2 hncap
            subst hO0 hn1 hn2
            simp only [List.length_nil]
            have hcY := HCL.out wq HBX.out
            have c0 : wq.cell? ⟨gl, i * 9, none⟩ = some (.int .u8 y0) := hcY 0 _ (by omega) rfl
            have c1 : wq.cell? ⟨gl, i * 9 + 1, none⟩ = some (.string y1) := hcY 1 _ (by omega) rfl
            have c2 : wq.cell? ⟨gl, i * 9 + 2, none⟩ = some (.int .i64 y2) := hcY 2 _ (by omega) rfl
            have c3 : wq.cell? ⟨gl, i * 9 + 3, none⟩ = some (.int .i64 y3) := hcY 3 _ (by omega) rfl
            have c4 : wq.cell? ⟨gl, i * 9 + 4, none⟩ = some (.int .i64 y4) := hcY 4 _ (by omega) rfl
            have c5 : wq.cell? ⟨gl, i * 9 + 5, none⟩ = some (.int .i64 y5) := hcY 5 _ (by omega) rfl
            have c6 : wq.cell? ⟨gl, i * 9 + 6, none⟩ = some (.int .i64 y6) := hcY 6 _ (by omega) rfl
            have c7 : wq.cell? ⟨gl, i * 9 + 7, none⟩ = some (.int .u8 y7) := hcY 7 _ (by omega) rfl
            have c8 : wq.cell? ⟨gl, i * 9 + 8, none⟩ = some (.bool y8) := hcY 8 _ (by omega) rfl
            clear hcY
            have hglq : gl < wq.heap.size := Nat.lt_of_lt_of_le hgll HBX.out.size
            have HNIL : Hid (wq.ownsRow wq.heap.size 84 9 (.slice none 0 0) (List.length ([] : List Ob)) (flatO [])) := World.ownsRow_nil _ _ _ _
            go_upto_region 10 with (first
              | (at_builtin; refine append_part rfl _ _ rfl wq.heap.size (.slice none 0 0) (Value.slice none 0 0) [] ([] : List Ob) rfl rfl HNIL.out (Or.inl ⟨rfl, rfl⟩) (by simp <;> omega) (Nat.le_refl _) ?_; intro v1 w4 hown1 hg1
                 obtain ⟨ad1, cap1, e1⟩ := own_form hown1
                 rw [List.nil_append] at hown1 e1
                 subst e1
                 have HO1 : Hid (w4.ownsRow wq.heap.size 84 9 (.slice ad1 0 cap1) (([] : List Ob)).length (flatO ([] : List Ob))) := hown1
                 have HB4 : Hid (Below wq.heap.size wq w4) := (Below.refl _ _).grown hg1 (Nat.le_refl _) (fun b e => by cases e)
                 have hcY := HCL.out w4 (HBX.out.trans (HB4.out.mono HBX.out.size))
                 have d0 : w4.cell? ⟨gl, i * 9, none⟩ = some (.int .u8 y0) := hcY 0 _ (by omega) rfl
                 have d1 : w4.cell? ⟨gl, i * 9 + 1, none⟩ = some (.string y1) := hcY 1 _ (by omega) rfl
                 have d2 : w4.cell? ⟨gl, i * 9 + 2, none⟩ = some (.int .i64 y2) := hcY 2 _ (by omega) rfl
                 have d3 : w4.cell? ⟨gl, i * 9 + 3, none⟩ = some (.int .i64 y3) := hcY 3 _ (by omega) rfl
                 have d4 : w4.cell? ⟨gl, i * 9 + 4, none⟩ = some (.int .i64 y4) := hcY 4 _ (by omega) rfl
                 have d5 : w4.cell? ⟨gl, i * 9 + 5, none⟩ = some (.int .i64 y5) := hcY 5 _ (by omega) rfl
                 have d6 : w4.cell? ⟨gl, i * 9 + 6, none⟩ = some (.int .i64 y6) := hcY 6 _ (by omega) rfl
                 have d7 : w4.cell? ⟨gl, i * 9 + 7, none⟩ = some (.int .u8 y7) := hcY 7 _ (by omega) rfl
                 have d8 : w4.cell? ⟨gl, i * 9 + 8, none⟩ = some (.bool y8) := hcY 8 _ (by omega) rfl
                 have hgl4 : gl < w4.heap.size := Nat.lt_of_lt_of_le (Nat.lt_of_lt_of_le hgll HBX.out.size) HB4.out.size
                 clear hown1 hg1 hcY
                 go_frame)
              | go_in)
            go_upto_region 11 with (first
              | (at_builtin; refine push_obn w4 ⟨y0, y1, y2, y3, y4, y5, y6, y7, y8⟩ rfl rfl _ _ rfl wq.heap.size _ ([] : List Ob) 0 rfl rfl rfl HO1.out (by omega) HB4.out.size ?_; intro g5 cap5 w5 hown5 hg5 hlt5
                 have HO5 : Hid (w5.ownsRow wq.heap.size 84 9 (.slice (some ⟨g5, 0, none⟩) (0 + 1) cap5) (([] : List Ob) ++ [Ob.mk y0 y1 y2 y3 y4 y5 y6 y7 y8]).length (flatO (([] : List Ob) ++ [Ob.mk y0 y1 y2 y3 y4 y5 y6 y7 y8]))) := hown5
                 have HB5 : Hid (Below wq.heap.size wq w5) := (HB4.out.alloc HB4.out.size _).grown hg5 (by have := HB4.out.size; simp <;> omega) (fun b e => (HO1.out.lt b e).1)
                 clear hown5 hg5 hlt5
                 go_frame)
              | go_in)
            go_wp2_with (first
              | (at_builtin; refine append_part rfl _ _ rfl wq.heap.size (.slice (some ⟨g5, 0, none⟩) (0 + 1) cap5) (Value.slice none 0 0) (([] : List Ob) ++ [Ob.mk y0 y1 y2 y3 y4 y5 y6 y7 y8]) [] rfl rfl HO5.out (Or.inl ⟨rfl, rfl⟩) (by simp <;> omega) HB5.out.size ?_; intro v6 w6 hown6 hg6
                 rw [List.append_nil] at hown6
                 obtain ⟨ad6, cap6, e6⟩ := own_form hown6
                 rw [List.length_append] at e6
                 subst e6
                 have HO6 : Hid (w6.ownsRow wq.heap.size 84 9 (.slice ad6 ((([] : List Ob)).length + [Ob.mk y0 y1 y2 y3 y4 y5 y6 y7 y8].length) cap6) (([] : List Ob) ++ [Ob.mk y0 y1 y2 y3 y4 y5 y6 y7 y8]).length (flatO (([] : List Ob) ++ [Ob.mk y0 y1 y2 y3 y4 y5 y6 y7 y8]))) := hown6
                 have HB6 : Hid (Below wq.heap.size wq w6) := HB5.out.grown hg6 HB5.out.size (fun b e => (HO5.out.lt b e).1)
                 clear hown6 hg6
                 go_frame)
              | go_in)
            go_roundw
            case rel => exact ⟨i + 1, HLT.out, by simp, by rw [HNX.out, HINS.out]; exact own_mono HO6.out HBX.out.size, HBX.out.trans (HB6.out.mono HBX.out.size)⟩
            case measure => have := HLT.out; simp [intOf]; omega
          · obtain rfl : ado = some ⟨go, 0, none⟩ := by injection h1
            have HGQ : Hid (go < wq.heap.size) := own_lt HRq.out rfl
            have HCO : Hid (∀ (j : Nat) (z : Value), (flatO O)[j]? = some z → wq.cell? ⟨go, j, none⟩ = some z) := by
              intro j z hz
              have h1 := HRq.out.cells (g := go) rfl j z hz
              rwa [Addr.add_lit, Nat.zero_add] at h1
            clear h1
            have hcc := hncap.1
            by_cases hcap : cpo = O.length
            · subst hcap
              have hcY := HCL.out wq HBX.out
              have c0 : wq.cell? ⟨gl, i * 9, none⟩ = some (.int .u8 y0) := hcY 0 _ (by omega) rfl
              have c1 : wq.cell? ⟨gl, i * 9 + 1, none⟩ = some (.string y1) := hcY 1 _ (by omega) rfl
              have c2 : wq.cell? ⟨gl, i * 9 + 2, none⟩ = some (.int .i64 y2) := hcY 2 _ (by omega) rfl
              have c3 : wq.cell? ⟨gl, i * 9 + 3, none⟩ = some (.int .i64 y3) := hcY 3 _ (by omega) rfl
              have c4 : wq.cell? ⟨gl, i * 9 + 4, none⟩ = some (.int .i64 y4) := hcY 4 _ (by omega) rfl
              have c5 : wq.cell? ⟨gl, i * 9 + 5, none⟩ = some (.int .i64 y5) := hcY 5 _ (by omega) rfl
              have c6 : wq.cell? ⟨gl, i * 9 + 6, none⟩ = some (.int .i64 y6) := hcY 6 _ (by omega) rfl
              have c7 : wq.cell? ⟨gl, i * 9 + 7, none⟩ = some (.int .u8 y7) := hcY 7 _ (by omega) rfl
              have c8 : wq.cell? ⟨gl, i * 9 + 8, none⟩ = some (.bool y8) := hcY 8 _ (by omega) rfl
              clear hcY
              have hglq : gl < wq.heap.size := Nat.lt_of_lt_of_le hgll HBX.out.size
              have HNIL : Hid (wq.ownsRow wq.heap.size 84 9 (.slice none 0 0) (List.length ([] : List Ob)) (flatO [])) := World.ownsRow_nil _ _ _ _
              go_upto_region 10 with (first
                | (at_builtin; refine append_part rfl _ _ rfl wq.heap.size (.slice none 0 0) (Value.slice (some ⟨go, 0, none⟩) O.length O.length) [] O rfl rfl HNIL.out (Or.inr ⟨go, 0, O.length, rfl, fun j z hz => by rw [Nat.zero_add]; exact HCO.out j z hz⟩) (by simp <;> omega) (Nat.le_refl _) ?_; intro v1 w4 hown1 hg1
                   obtain ⟨ad1, cap1, e1⟩ := own_form hown1
                   rw [List.nil_append] at hown1 e1
                   subst e1
                   have HO1 : Hid (w4.ownsRow wq.heap.size 84 9 (.slice ad1 O.length cap1) (O).length (flatO O)) := hown1
                   have HB4 : Hid (Below wq.heap.size wq w4) := (Below.refl _ _).grown hg1 (Nat.le_refl _) (fun b e => by cases e)
                   have hcY := HCL.out w4 (HBX.out.trans (HB4.out.mono HBX.out.size))
                   have d0 : w4.cell? ⟨gl, i * 9, none⟩ = some (.int .u8 y0) := hcY 0 _ (by omega) rfl
                   have d1 : w4.cell? ⟨gl, i * 9 + 1, none⟩ = some (.string y1) := hcY 1 _ (by omega) rfl
                   have d2 : w4.cell? ⟨gl, i * 9 + 2, none⟩ = some (.int .i64 y2) := hcY 2 _ (by omega) rfl
                   have d3 : w4.cell? ⟨gl, i * 9 + 3, none⟩ = some (.int .i64 y3) := hcY 3 _ (by omega) rfl
                   have d4 : w4.cell? ⟨gl, i * 9 + 4, none⟩ = some (.int .i64 y4) := hcY 4 _ (by omega) rfl
                   have d5 : w4.cell? ⟨gl, i * 9 + 5, none⟩ = some (.int .i64 y5) := hcY 5 _ (by omega) rfl
                   have d6 : w4.cell? ⟨gl, i * 9 + 6, none⟩ = some (.int .i64 y6) := hcY 6 _ (by omega) rfl
                   have d7 : w4.cell? ⟨gl, i * 9 + 7, none⟩ = some (.int .u8 y7) := hcY 7 _ (by omega) rfl
                   have d8 : w4.cell? ⟨gl, i * 9 + 8, none⟩ = some (.bool y8) := hcY 8 _ (by omega) rfl
                   have hgl4 : gl < w4.heap.size := Nat.lt_of_lt_of_le (Nat.lt_of_lt_of_le hgll HBX.out.size) HB4.out.size
                   clear hown1 hg1 hcY
                   go_frame)
                | go_in)
              go_upto_region 11 with (first
                | (at_builtin; refine push_obn w4 ⟨y0, y1, y2, y3, y4, y5, y6, y7, y8⟩ rfl rfl _ _ rfl wq.heap.size _ O O.length rfl rfl rfl HO1.out (by omega) HB4.out.size ?_; intro g5 cap5 w5 hown5 hg5 hlt5
                   have HO5 : Hid (w5.ownsRow wq.heap.size 84 9 (.slice (some ⟨g5, 0, none⟩) (O.length + 1) cap5) (O ++ [Ob.mk y0 y1 y2 y3 y4 y5 y6 y7 y8]).length (flatO (O ++ [Ob.mk y0 y1 y2 y3 y4 y5 y6 y7 y8]))) := hown5
                   have HB5 : Hid (Below wq.heap.size wq w5) := (HB4.out.alloc HB4.out.size _).grown hg5 (by have := HB4.out.size; simp <;> omega) (fun b e => (HO1.out.lt b e).1)
                   clear hown5 hg5 hlt5
                   go_frame)
                | go_in)
              go_wp2_with (first
                | (at_builtin; refine append_part rfl _ _ rfl wq.heap.size (.slice (some ⟨g5, 0, none⟩) (O.length + 1) cap5) _ (O ++ [Ob.mk y0 y1 y2 y3 y4 y5 y6 y7 y8]) [] rfl rfl HO5.out (Or.inr ⟨_, _, _, rfl, fun j z hz => by simp [flatO] at hz⟩) (by simp <;> omega) HB5.out.size ?_; intro v6 w6 hown6 hg6
                   rw [List.append_nil] at hown6
                   obtain ⟨ad6, cap6, e6⟩ := own_form hown6
                   rw [List.length_append] at e6
                   subst e6
                   have HO6 : Hid (w6.ownsRow wq.heap.size 84 9 (.slice ad6 ((O).length + [Ob.mk y0 y1 y2 y3 y4 y5 y6 y7 y8].length) cap6) (O ++ [Ob.mk y0 y1 y2 y3 y4 y5 y6 y7 y8]).length (flatO (O ++ [Ob.mk y0 y1 y2 y3 y4 y5 y6 y7 y8]))) := hown6
                   have HB6 : Hid (Below wq.heap.size wq w6) := HB5.out.grown hg6 HB5.out.size (fun b e => (HO5.out.lt b e).1)
                   clear hown6 hg6
                   go_frame)
                | go_in)
              go_roundw
              case rel => exact ⟨i + 1, HLT.out, by simp, by rw [HNX.out, HINS.out]; exact own_mono HO6.out HBX.out.size, HBX.out.trans (HB6.out.mono HBX.out.size)⟩
              case measure => have := HLT.out; simp [intOf]; omega
            · have hcap2 : O.length < cpo := by omega
              have hcap3 : cpo - O.length ≠ 0 := by omega
              have hcap4 : ¬ (O.length = cpo) := by omega
              have hcY := HCL.out wq HBX.out
              have c0 : wq.cell? ⟨gl, i * 9, none⟩ = some (.int .u8 y0) := hcY 0 _ (by omega) rfl
              have c1 : wq.cell? ⟨gl, i * 9 + 1, none⟩ = some (.string y1) := hcY 1 _ (by omega) rfl
              have c2 : wq.cell? ⟨gl, i * 9 + 2, none⟩ = some (.int .i64 y2) := hcY 2 _ (by omega) rfl
              have c3 : wq.cell? ⟨gl, i * 9 + 3, none⟩ = some (.int .i64 y3) := hcY 3 _ (by omega) rfl
              have c4 : wq.cell? ⟨gl, i * 9 + 4, none⟩ = some (.int .i64 y4) := hcY 4 _ (by omega) rfl
              have c5 : wq.cell? ⟨gl, i * 9 + 5, none⟩ = some (.int .i64 y5) := hcY 5 _ (by omega) rfl
              have c6 : wq.cell? ⟨gl, i * 9 + 6, none⟩ = some (.int .i64 y6) := hcY 6 _ (by omega) rfl
              have c7 : wq.cell? ⟨gl, i * 9 + 7, none⟩ = some (.int .u8 y7) := hcY 7 _ (by omega) rfl
              have c8 : wq.cell? ⟨gl, i * 9 + 8, none⟩ = some (.bool y8) := hcY 8 _ (by omega) rfl
              clear hcY
              have hglq : gl < wq.heap.size := Nat.lt_of_lt_of_le hgll HBX.out.size
              have HNIL : Hid (wq.ownsRow wq.heap.size 84 9 (.slice none 0 0) (List.length ([] : List Ob)) (flatO [])) := World.ownsRow_nil _ _ _ _
              go_upto_region 10 with (first
                | (at_builtin; refine append_part rfl _ _ rfl wq.heap.size (.slice none 0 0) (Value.slice (some ⟨go, 0, none⟩) O.length cpo) [] O rfl rfl HNIL.out (Or.inr ⟨go, 0, cpo, rfl, fun j z hz => by rw [Nat.zero_add]; exact HCO.out j z hz⟩) (by simp <;> omega) (Nat.le_refl _) ?_; intro v1 w4 hown1 hg1
                   obtain ⟨ad1, cap1, e1⟩ := own_form hown1
                   rw [List.nil_append] at hown1 e1
                   subst e1
                   have HO1 : Hid (w4.ownsRow wq.heap.size 84 9 (.slice ad1 O.length cap1) (O).length (flatO O)) := hown1
                   have HB4 : Hid (Below wq.heap.size wq w4) := (Below.refl _ _).grown hg1 (Nat.le_refl _) (fun b e => by cases e)
                   have hcY := HCL.out w4 (HBX.out.trans (HB4.out.mono HBX.out.size))
                   have d0 : w4.cell? ⟨gl, i * 9, none⟩ = some (.int .u8 y0) := hcY 0 _ (by omega) rfl
                   have d1 : w4.cell? ⟨gl, i * 9 + 1, none⟩ = some (.string y1) := hcY 1 _ (by omega) rfl
                   have d2 : w4.cell? ⟨gl, i * 9 + 2, none⟩ = some (.int .i64 y2) := hcY 2 _ (by omega) rfl
                   have d3 : w4.cell? ⟨gl, i * 9 + 3, none⟩ = some (.int .i64 y3) := hcY 3 _ (by omega) rfl
                   have d4 : w4.cell? ⟨gl, i * 9 + 4, none⟩ = some (.int .i64 y4) := hcY 4 _ (by omega) rfl
                   have d5 : w4.cell? ⟨gl, i * 9 + 5, none⟩ = some (.int .i64 y5) := hcY 5 _ (by omega) rfl
                   have d6 : w4.cell? ⟨gl, i * 9 + 6, none⟩ = some (.int .i64 y6) := hcY 6 _ (by omega) rfl
                   have d7 : w4.cell? ⟨gl, i * 9 + 7, none⟩ = some (.int .u8 y7) := hcY 7 _ (by omega) rfl
                   have d8 : w4.cell? ⟨gl, i * 9 + 8, none⟩ = some (.bool y8) := hcY 8 _ (by omega) rfl
                   have hgl4 : gl < w4.heap.size := Nat.lt_of_lt_of_le (Nat.lt_of_lt_of_le hgll HBX.out.size) HB4.out.size
                   clear hown1 hg1 hcY
                   go_frame)
                | go_in)
              go_upto_region 11 with (first
                | (at_builtin; refine push_obn w4 ⟨y0, y1, y2, y3, y4, y5, y6, y7, y8⟩ rfl rfl _ _ rfl wq.heap.size _ O O.length rfl rfl rfl HO1.out (by omega) HB4.out.size ?_; intro g5 cap5 w5 hown5 hg5 hlt5
                   have HO5 : Hid (w5.ownsRow wq.heap.size 84 9 (.slice (some ⟨g5, 0, none⟩) (O.length + 1) cap5) (O ++ [Ob.mk y0 y1 y2 y3 y4 y5 y6 y7 y8]).length (flatO (O ++ [Ob.mk y0 y1 y2 y3 y4 y5 y6 y7 y8]))) := hown5
                   have HB5 : Hid (Below wq.heap.size wq w5) := (HB4.out.alloc HB4.out.size _).grown hg5 (by have := HB4.out.size; simp <;> omega) (fun b e => (HO1.out.lt b e).1)
                   clear hown5 hg5 hlt5
                   go_frame)
                | go_in)
              go_wp2_with (first
                | (at_builtin; refine append_part rfl _ _ rfl wq.heap.size (.slice (some ⟨g5, 0, none⟩) (O.length + 1) cap5) _ (O ++ [Ob.mk y0 y1 y2 y3 y4 y5 y6 y7 y8]) [] rfl rfl HO5.out (Or.inr ⟨_, _, _, rfl, fun j z hz => by simp [flatO] at hz⟩) (by simp <;> omega) HB5.out.size ?_; intro v6 w6 hown6 hg6
                   rw [List.append_nil] at hown6
                   obtain ⟨ad6, cap6, e6⟩ := own_form hown6
                   rw [List.length_append] at e6
                   subst e6
                   have HO6 : Hid (w6.ownsRow wq.heap.size 84 9 (.slice ad6 ((O).length + [Ob.mk y0 y1 y2 y3 y4 y5 y6 y7 y8].length) cap6) (O ++ [Ob.mk y0 y1 y2 y3 y4 y5 y6 y7 y8]).length (flatO (O ++ [Ob.mk y0 y1 y2 y3 y4 y5 y6 y7 y8]))) := hown6
                   have HB6 : Hid (Below wq.heap.size wq w6) := HB5.out.grown hg6 HB5.out.size (fun b e => (HO5.out.lt b e).1)
                   clear hown6 hg6
                   go_frame)
                | go_in)
              go_roundw
              case rel => exact ⟨i + 1, HLT.out, by simp, by rw [HNX.out, HINS.out]; exact own_mono HO6.out HBX.out.size, HBX.out.trans (HB6.out.mono HBX.out.size)⟩
              case measure => have := HLT.out; simp [intOf]; omega
    · have hil : i = l.length := by omega
      subst hil
      have hii : ¬ ((l.length : Int) < (l.length : Int)) := by omega
      have HF : Hid (wr.ownsRow w.heap.size 84 9 (.slice ado O.length cpo) (ordL l).length (flatO (ordL l))) := by
        have := HR.out
        have e := HO.out
        rw [List.take_length] at e
        rw [← e]
        exact this
      go_wp2
      go_ret
      exact ⟨_, rfl, HF.out, HBw.out⟩

end Go.Proofs.YtdgfjneapialdaaGreatDoor.S
