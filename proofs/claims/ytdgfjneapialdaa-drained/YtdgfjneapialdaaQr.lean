import Derived.Test.YtdgfjneapialdaaQi
import Derived.Test.YtdgfjneapialdaaQp
import Derived.Test.YtdgfjneapialdaaQq
namespace Go.Proofs.Ytdgfjneapialdaa
open Go Go.RowKit Go.Maps Go.Lib

def boolsOf (f : ByteArray → Bool) : Array Value := (KS.map fun k => Value.bool (f k)).toArray
theorem boolsOf_cell {w : World} {b : Nat} {f : ByteArray → Bool} (h : w.heap[b]? = some (.cells (boolsOf f) 4 (0, 0))) {j : Nat} {k : ByteArray} (hj : KS[j]? = some k) : w.cell? ⟨b, j, none⟩ = some (.bool (f k)) := by
  simp only [World.cell?, h, boolsOf]
  simp [hj]
theorem boolsOf_fz {w : World} {b : Nat} {f : ByteArray → Bool} (h : w.heap[b]? = some (.cells (boolsOf f) 4 (0, 0))) (o : Nat) : w.frozen? ⟨b, o, none⟩ = false := by simp [World.frozen?, h]
theorem boolsOf_set {w : World} {b : Nat} {f f' : ByteArray → Bool} (h : w.heap[b]? = some (.cells (boolsOf f) 4 (0, 0))) {j : Nat} {k : ByteArray} (hj : KS[j]? = some k) {x : Bool} (hk : f' k = x) (ho : ∀ y, y ≠ k → f' y = f y) :
    (w.setCell ⟨b, j, none⟩ (.bool x)).heap[b]? = some (.cells (boolsOf f') 4 (0, 0)) := by
  rw [heap_setCell_at h, boolsOf, map_upd KS _ (fun k => Value.bool (f' k)) j k (.bool x) hj KS_nd (by rw [hk]) (fun y hy => by rw [ho y hy])]
  rfl
theorem boolsOf_congr {f f' : ByteArray → Bool} (h : ∀ x, f' x = f x) : boolsOf f' = boolsOf f := by rw [funext h]

/-- The first phase of draining: j keys are done. -/
def Ph1 (C : Nat → Prop) (w : World) (s : QS) (T : Int) (qb pm dm fm : Nat) (j : Nat) (wr : World) : Prop :=
  (∃ rv s', IsQ C UU wr qb pm dm fm rv s' ∧ DrI T s' ∧ s'.ck = s.ck ∧ (∀ x, askedB s' x = askedB s x) ∧ ∀ x ∈ KS.take j, handB s' x = false) ∧ KeptC C w wr
/-- The second: the clock has gone on j times. -/
def Ph2 (C : Nat → Prop) (w : World) (s : QS) (T : Int) (qb pm dm fm : Nat) (j : Nat) (wr : World) : Prop :=
  (∃ rv s', IsQ C UU wr qb pm dm fm rv s' ∧ DrI T s' ∧ s'.ck = s.ck + j ∧ (∀ x, askedB s' x = askedB s x) ∧ ∀ x ∈ KS, handB s' x = false) ∧ KeptC C w wr
/-- The third: j keys have come. -/
def Ph3 (C : Nat → Prop) (w : World) (s : QS) (T : Int) (qb pm dm fm cb : Nat) (j : Nat) (wr : World) : Prop :=
  (∃ rv s', IsQ (fun b => C b ∨ b = cb) UU wr qb pm dm fm rv s' ∧ DrI T s' ∧ (∀ x, s'.du x = none) ∧ (∀ x, s'.pl x ≠ some 3) ∧ (∀ x, askedB s' x = true → askedB s x = true) ∧ s'.row.length + j ≤ 6 ∧ wr.heap[cb]? = some (.cells (boolsOf fun x => askedB s x && !askedB s' x) 4 (0, 0))) ∧ KeptC C w wr
/-- The last: all that were asked for have come. -/
def Ph4 (C : Nat → Prop) (w : World) (s : QS) (qb pm dm fm cb : Nat) (wr : World) : Prop :=
  (∃ rv s', IsQ (fun b => C b ∨ b = cb) UU wr qb pm dm fm rv s' ∧ QOk UU s' ∧ s'.row = [] ∧ s'.pl KX = none ∧ wr.heap[cb]? = some (.cells (boolsOf fun x => askedB s x) 4 (0, 0))) ∧ KeptC C w wr

theorem Ph3.stop {C : Nat → Prop} {w : World} {s : QS} {T : Int} {qb pm dm fm cb : Nat} {wr : World} {rv : Value} {s' : QS} (h1 : IsQ (fun b => C b ∨ b = cb) UU wr qb pm dm fm rv s') (h2 : DrI T s') (h3 : ∀ x, s'.du x = none) (h4 : ∀ x, s'.pl x ≠ some 3) (h6 : wr.heap[cb]? = some (.cells (boolsOf fun x => askedB s x && !askedB s' x) 4 (0, 0))) (hK : KeptC C w wr) (hr : s'.row = []) : Ph4 C w s qb pm dm fm cb wr := by
  refine ⟨⟨rv, s', h1, h2.ok, hr, ?_, ?_⟩, hK⟩
  · cases e : s'.pl KX with
    | none => rfl
    | some v => exact absurd (h2.plK KX (by rw [e]; simp)) KX_not
  · have e : ∀ x, askedB s' x = false := by
      intro x
      have n1 : s'.pl x ≠ some 1 := fun e => by
        have := (h2.ok.mem x).2 e
        rw [hr] at this
        simp at this
      simp [askedB, n1, h4 x, h3 x]
    rw [h6, boolsOf_congr (f := fun x => askedB s x) (fun x => by simp [e x])]

theorem Ph4.drewN {C : Nat → Prop} {w : World} {s : QS} {qb pm dm fm cb : Nat} {wr : World} (h : Ph4 C w s qb pm dm fm cb wr) (n : Nat) : Ph4 C w s qb pm dm fm cb (wr.drewN n) := by
  obtain ⟨⟨rv, s', h1, h2, h3, h4, h5⟩, hK⟩ := h
  exact ⟨⟨rv, s', h1.drewN n, h2, h3, h4, h5⟩, hK.drewN n⟩
theorem ks_get {j : Nat} (hj : j < 6) : ∃ k, KS[j]? = some k ∧ k ∈ KS := ⟨KS[j]'(by rw [KS_len]; exact hj), by simp, List.getElem_mem _⟩

theorem info4 : (Try.prog.info? 4).map (fun i => (i.zero, i.size, i.bytes)) = some (some (.bool false), 1, 1) := by kernel_rfl
theorem make6 (W : World) : (Instr.makeSlice 25 (.int .i64 6) (.int .i64 6)).run Try.prog W = .ok (.slice (some ⟨W.heap.size, 0, none⟩) 6 6) (W.alloc (.cells #[.bool false, .bool false, .bool false, .bool false, .bool false, .bool false] 4)) := by
  obtain ⟨i0, hi, z0, z1, z2⟩ := info_parts info4
  have := run_makeSlice (P := Try.prog) W 25 4 i0 (.bool false) Try.underlying25 hi z0 .i64 .i64 6 6 (by omega) (by omega) (by rw [z1]; decide) (by rw [z2]; decide) (by omega)
  rw [z1] at this
  rw [this]
  have e : madeCells (Value.bool false).cells (Int.toNat 6 * 1) = #[.bool false, .bool false, .bool false, .bool false, .bool false, .bool false] := by
    apply Array.ext
    · simp [madeCells]
    · intro i h1 h2
      simp only [List.size_toArray, List.length_cons, List.length_nil] at h2
      have h3 : i = 0 ∨ i = 1 ∨ i = 2 ∨ i = 3 ∨ i = 4 ∨ i = 5 := by omega
      rcases h3 with rfl | rfl | rfl | rfl | rfl | rfl <;> simp [madeCells, Value.cells]
  rw [e]
  rfl

section
variable {C : Nat → Prop} {w : World} {qb pm dm fm : Nat} {rv : Value} {s : QS}

set_option maxRecDepth 100000 in
set_option maxHeartbeats 1000000 in
theorem drains_any (h : IsQ C UU w qb pm dm fm rv s) (hC : ∀ b, C b → b < w.heap.size) (hD : DrI (s.ck + 19) s) (h1 : s.ck ≤ 4611686018427387000) (kb ab : Nat) (hkb : C kb) (hab : C ab)
    (hkeys : ∀ j k, KS[j]? = some k → w.cell? ⟨kb, j, none⟩ = some (.string k)) (hask : w.heap[ab]? = some (.cells (boolsOf (askedB s)) 4 (0, 0))) :
    Calls Try.prog 14 #[.pointer (some ⟨qb, 0, none⟩), .slice (some ⟨kb, 0, none⟩) 6 6, .slice (some ⟨ab, 0, none⟩) 6 6] w fun e w' => e = .returned (.bool true) ∧ KeptC C w w' := by
  have HC : Hid (∀ b, C b → b < w.heap.size) := hC
  have HKE : Hid (∀ j k, KS[j]? = some k → w.cell? ⟨kb, j, none⟩ = some (.string k)) := hkeys
  have HAS : Hid (w.heap[ab]? = some (.cells (boolsOf (askedB s)) 4 (0, 0))) := hask
  have HP : Hid (Ph1 C w s (s.ck + 19) qb pm dm fm 0 w) := ⟨⟨rv, s, h, hD, rfl, fun _ => rfl, fun x hx => by simp at hx⟩, KeptC.refl _ _⟩
  have HCK : Hid (s.ck ≤ 4611686018427387000) := h1
  have HKB : Hid (C kb) := hkb
  have HAB : Hid (C ab) := hab
  have hU : UU.length ≤ 1000000 := by rw [UU_len]; omega
  clear hC hkeys hask h hD h1 hkb hab
  go_enter Try.func14, Try.ntmps14
  go_wp2
  go_loopw [7] (fun i wr => ∃ j : Nat, j ≤ 6 ∧ i = .int .i64 j ∧ Hid (Ph1 C w s (s.ck + 19) qb pm dm fm j wr)) (fun i _ => 6 - (intOf i).toNat)
  case atStart => exact ⟨0, by omega, rfl, HP⟩
  case round =>
    obtain ⟨j, hj, rfl, H1⟩ := hrel
    by_cases hlt : j < 6
    · obtain ⟨k, hk, hkm⟩ := ks_get hlt
      obtain ⟨⟨rv', s', hq, hd, hck, has, hnd⟩, hK⟩ := H1.out
      have hcell := (hK.cell (a := ⟨kb, j, none⟩) HKB.out (HC.out _ HKB.out)).trans (HKE.out j k hk)
      have hdc := donec_any hq (fun b hb => Nat.lt_of_lt_of_le (HC.out b hb) hK.size) hU hd.ok k (UU_8 k (KS_U hkm)).1 (UU_8 k (KS_U hkm)).2 (KS_U hkm)
      have HN : Hid (∀ w2, QIs C UU wr w2 qb pm dm fm (s'.done k) → Ph1 C w s (s.ck + 19) qb pm dm fm (j + 1) w2) := by
        intro w2 ⟨⟨rv2, hq2⟩, hk2⟩
        obtain ⟨d1, d2, d3, d4, d5⟩ := hd.done hkm
        refine ⟨⟨rv2, _, hq2, d1, d5.trans hck, fun x => (d2 x).trans (has x), fun x hx => ?_⟩, hK.trans hk2⟩
        by_cases e : x = k
        · rw [e]; exact d3
        · rw [d4 x e]
          obtain ⟨hl, he⟩ := List.getElem?_eq_some_iff.1 hk
          rw [List.take_succ_eq_append_getElem hl, he, List.mem_append, List.mem_singleton] at hx
          exact hnd x (hx.resolve_right e)
      have hlti : ((j : Int) < 6) := by omega
      clear hq hd hck has hnd hK hk hkm
      go_wp2_with fail
      refine hdc.mono ?_
      rintro e w2 ⟨rfl, hq2⟩
      have H2 : Hid (Ph1 C w s (s.ck + 19) qb pm dm fm (j + 1) w2) := HN.out w2 hq2
      clear hq2 hdc
      go_wp2
      go_roundw
      case rel => exact ⟨j + 1, by omega, by simp, H2⟩
      case measure => simp [intOf]; omega
    · have hlti : ¬ ((j : Int) < 6) := by omega
      have HP2 : Hid (Ph2 C w s (s.ck + 19) qb pm dm fm 0 wr) := by
        have hj6 : j = 6 := by omega
        subst hj6
        obtain ⟨⟨rv', s', hq, hd, hck, has, hnd⟩, hK⟩ := H1.out
        exact ⟨⟨rv', s', hq, hd, by omega, has, fun x hx => hnd x (by rw [List.take_of_length_le (by rw [KS_len]; omega)]; exact hx)⟩, hK⟩
      clear H1 HP
      go_wp2
      go_loopw [8] (fun i wr => ∃ j : Nat, j ≤ 30 ∧ i = .int .i64 j ∧ Hid (Ph2 C w s (s.ck + 19) qb pm dm fm j wr)) (fun i _ => 30 - (intOf i).toNat)
      case atStart => exact ⟨0, by omega, rfl, HP2⟩
      case round =>
        obtain ⟨j, hj, rfl, H1⟩ := hrel
        by_cases hlt : j < 30
        · obtain ⟨⟨rv', s', hq, hd, hck, has, hnd⟩, hK⟩ := H1.out
          have htk := tick_any hq (fun b hb => Nat.lt_of_lt_of_le (HC.out b hb) hK.size) hU UU_8 hd.ok (by have := HCK.out; omega)
          have HN : Hid (∀ w2 ks, Nexts s' ks → QIs C UU wr w2 qb pm dm fm (s'.ticked ks) → Ph2 C w s (s.ck + 19) qb pm dm fm (j + 1) w2) := by
            intro w2 ks hn ⟨⟨rv2, hq2⟩, hk2⟩
            obtain ⟨d1, d2, d3, d4⟩ := hd.ticked hn
            exact ⟨⟨rv2, _, hq2, d1, by rw [d4, hck]; omega, fun x => (d2 x).trans (has x), fun x hx => (d3 x).trans (hnd x hx)⟩, hK.trans hk2⟩
          have hlti : ((j : Int) < 30) := by omega
          clear hq hd hck has hnd hK
          go_wp2_with fail
          refine htk.mono ?_
          rintro e w2 ⟨rfl, ks, hn, hq2⟩
          have H2 : Hid (Ph2 C w s (s.ck + 19) qb pm dm fm (j + 1) w2) := HN.out w2 _ hn hq2
          clear hn hq2 htk
          go_wp2
          go_roundw
          case rel => exact ⟨j + 1, by omega, by simp, H2⟩
          case measure => simp [intOf]; omega
        · have hlti : ¬ ((j : Int) < 30) := by omega
          have hj30 : j = 30 := by omega
          have HKW : Hid (w.heap.size ≤ wr.heap.size) := H1.out.2.size
          have HP3 : Hid (Ph3 C w s (s.ck + 19) qb pm dm fm wr.heap.size 0 (wr.alloc (.cells #[.bool false, .bool false, .bool false, .bool false, .bool false, .bool false] 4))) := by
            obtain ⟨⟨rv', s', hq, hd, hck, has, hnd⟩, hK⟩ := H1.out
            have hdu : ∀ x, s'.du x = none := by
              intro x
              cases e : s'.du x with
              | none => rfl
              | some t =>
                have h1 := (hd.ok.dus x t e).1
                have h2 := (hd.duK x t e).2
                omega
            refine ⟨⟨rv', s', (hq.more (fun b hb hc => hc.elim id (fun e => by omega))).alloc _, hd, hdu, fun x e => ?_, fun x hx => by rw [← has x]; exact hx, ?_, ?_⟩, hK.alloc _⟩
            · have h1 := hnd x (hd.plK x (by rw [e]; simp))
              simp [handB, e] at h1
            · have := len_le_of_sub s'.row KS hd.ok.nd (fun x hx => hd.plK x (by rw [(hd.ok.mem x).1 hx]; simp))
              rw [KS_len] at this
              omega
            · rw [(MapKept.heap_alloc wr _).1, boolsOf_congr (f := fun _ => false) (fun x => by rw [has x]; simp)]
              rfl
          clear H1 HP2 hj30
          have hmk := make6
          go_wp2
          have HCB : Hid (w.heap.size ≤ wr.heap.size) := HKW
          generalize hcb : wr.heap.size = cb at *
          generalize hW1 : wr.alloc (.cells #[.bool false, .bool false, .bool false, .bool false, .bool false, .bool false] 4) = W1 at *
          clear hcb hW1
          go_loopw [10] (fun i wr => ∃ j : Nat, j ≤ 7 ∧ i = .int .i64 j ∧ Hid (Ph3 C w s (s.ck + 19) qb pm dm fm cb j wr)) (fun i _ => 7 - (intOf i).toNat)
          case atStart => exact ⟨0, by omega, rfl, HP3⟩
          case round =>
            obtain ⟨j, hj, rfl, H1⟩ := hrel
            obtain ⟨⟨rv', s', hq, hd, hdu, hp3, hsub, hrl, hcm⟩, hK⟩ := H1.out
            have hj6 : ((j : Int) ≤ 6) := by omega
            cases hrow : s'.row with
            | nil =>
              have htk := take_none hq hrow
              have hpl := fun W (hc : ∀ j (hj : j < KS.length), W.cell? ⟨kb, j, none⟩ = some (.string KS[j])) => place_any kb KS ⟨#[]⟩ W hc (by rw [KS_len]; omega)
              have HP4 : Hid (∀ w2, QIs (fun b => C b ∨ b = cb) UU wr w2 qb pm dm fm s' → Ph4 C w s qb pm dm fm cb w2 ∧ ∀ j (hj : j < KS.length), w2.cell? ⟨kb, j, none⟩ = some (.string KS[j])) := by
                intro w2 ⟨⟨rv2, hq2⟩, hk2⟩
                have hkk := hK.trans (hk2.sub (fun b hb => Or.inl hb))
                refine ⟨Ph3.stop hq2 hd hdu hp3 ((hk2.block cb (Or.inr rfl) (Array.getElem?_eq_some_iff.1 hcm).1).trans hcm) hkk hrow, fun j hj => ?_⟩
                exact (hkk.cell (a := ⟨kb, j, none⟩) HKB.out (HC.out _ HKB.out)).trans (HKE.out j _ (by simp [hj]))
              clear hq hd hdu hp3 hsub hrl hcm hK hrow H1
              go_wp2_with fail
              refine htk.mono ?_
              rintro e w2 ⟨rfl, hq2⟩
              obtain ⟨h4, hcells⟩ := HP4.out w2 hq2
              have H4 : Hid (Ph4 C w s qb pm dm fm cb w2) := h4
              have hpl' := hpl w2 hcells
              simp only [KS_len] at hpl'
              clear hq2 hcells hpl htk HP4 h4
              go_wp2_with fail
              refine hpl'.mono ?_
              rintro e w3 ⟨r, rfl, rfl, _⟩
              clear hpl'
              go_wp2
              go_loopw [14] (fun i wr => ∃ j : Nat, j ≤ 6 ∧ i = .int .i64 j ∧ Hid (Ph4 C w s qb pm dm fm cb wr)) (fun i _ => 6 - (intOf i).toNat)
              case atStart => exact ⟨0, by omega, rfl, H4⟩
              case round =>
                obtain ⟨j, hj, rfl, H5⟩ := hrel
                by_cases hlt : j < 6
                · obtain ⟨k, hk, hkm⟩ := ks_get hlt
                  have hc1 : wr.cell? ⟨cb, j, none⟩ = some (.bool (askedB s k)) := by
                    obtain ⟨⟨_, _, _, _, _, _, hb⟩, _⟩ := H5.out
                    exact boolsOf_cell hb hk
                  have hc2 : wr.cell? ⟨ab, j, none⟩ = some (.bool (askedB s k)) := by
                    exact boolsOf_cell ((H5.out.2.block ab HAB.out (HC.out _ HAB.out)).trans HAS.out) hk
                  have hlti : ((j : Int) < 6) := by omega
                  generalize askedB s k = bb at hc1 hc2
                  clear hk hkm
                  go_wp2_with fail
                  go_quiet (fail)
                  go_wp2
                  go_roundw
                  case rel => exact ⟨j + 1, by omega, by simp, H5.out.drewN nq⟩
                  case measure => simp [intOf]; omega
                · have hlti : ¬ ((j : Int) < 6) := by omega
                  obtain ⟨⟨rv4, s4, hq4, ho4, hr4, hp4, _⟩, hK4⟩ := H5.out
                  have hz4 : ∀ b, (C b ∨ b = cb) → b < wr.heap.size := by
                    intro b hb
                    rcases hb with hb | rfl
                    · exact Nat.lt_of_lt_of_le (HC.out b hb) hK4.size
                    · obtain ⟨⟨_, _, _, _, _, _, hb⟩, _⟩ := H5.out
                      exact (Array.getElem?_eq_some_iff.1 hb).1
                  have had := addc_any hq4 hz4 hU ho4 KX (UU_8 KX KX_U).1 (UU_8 KX KX_U).2 KX_U
                  have es : s4.add KX = { s4 with row := [KX], pl := upd s4.pl KX (some 1) } := by
                    simp [QS.add, QS.wait, hp4, hr4]
                  rw [es] at had
                  have HTK : Hid (∀ w5, QIs (fun b => C b ∨ b = cb) UU wr w5 qb pm dm fm { s4 with row := [KX], pl := upd s4.pl KX (some 1) } → Calls Try.prog 10 #[.pointer (some ⟨qb, 0, none⟩)] w5 fun e w' => e = .returned (.tuple #[.string KX, .bool true]) ∧ KeptC C w w') := by
                    intro w5 ⟨⟨rv5, hq5⟩, hk5⟩
                    refine (take_some hq5 (fun b hb => Nat.lt_of_lt_of_le (hz4 b hb) hk5.size) hU (k := KX) (r := []) rfl (by decide) KX_U).mono ?_
                    rintro e w6 ⟨rfl, _, hk6⟩
                    exact ⟨rfl, hK4.trans ((hk5.trans hk6).sub (fun b hb => Or.inl hb))⟩
                  simp only [KX] at had HTK
                  clear hq4 ho4 hr4 hp4 hK4 hz4 es
                  go_wp2_with fail
                  refine had.mono ?_
                  rintro e w5 ⟨rfl, hq5⟩
                  have htk2 := HTK.out w5 hq5
                  clear HTK had hq5
                  go_wp2_with fail
                  refine htk2.mono ?_
                  rintro e w6 ⟨rfl, hk6⟩
                  go_wp2
                  go_ret
                  exact ⟨rfl, hk6⟩
            | cons k r =>
              obtain ⟨d1, hkK, hask, _, d5, d6, _, _⟩ := hd.take hrow
              have hz3 : ∀ b, (C b ∨ b = cb) → b < wr.heap.size := by
                intro b hb
                rcases hb with hb | rfl
                · exact Nat.lt_of_lt_of_le (HC.out b hb) hK.size
                · exact (Array.getElem?_eq_some_iff.1 hcm).1
              have htk := take_some hq hz3 hU hrow (by have := (UU_8 k (KS_U hkK)).2; unfold maxLen; omega) (KS_U hkK)
              have hpl := fun W (hc : ∀ j (hj : j < KS.length), W.cell? ⟨kb, j, none⟩ = some (.string KS[j])) => place_any kb KS k W hc (by rw [KS_len]; omega)
              have HKK : Hid (k ∈ KS) := hkK
              have HN : Hid (∀ w2, QIs (fun b => C b ∨ b = cb) UU wr w2 qb pm dm fm (s'.take k r) → (∀ j (hj : j < KS.length), w2.cell? ⟨kb, j, none⟩ = some (.string KS[j])) ∧ ∀ i, KS[i]? = some k → w2.cell? ⟨cb, i, none⟩ = some (.bool false) ∧ (∀ o, w2.frozen? ⟨cb, o, none⟩ = false) ∧ Ph3 C w s (s.ck + 19) qb pm dm fm cb (j + 1) (w2.setCell ⟨cb, i, none⟩ (.bool true))) := by
                intro w2 ⟨⟨rv2, hq2⟩, hk2⟩
                have hkk := hK.trans (hk2.sub (fun b hb => Or.inl hb))
                have hcm2 := (hk2.block cb (Or.inr rfl) (Array.getElem?_eq_some_iff.1 hcm).1).trans hcm
                refine ⟨fun j hj => (hkk.cell (a := ⟨kb, j, none⟩) HKB.out (HC.out _ HKB.out)).trans (HKE.out j _ (by simp [hj])), fun i hi => ⟨?_, fun o => boolsOf_fz hcm2 o, ?_⟩⟩
                · rw [boolsOf_cell hcm2 hi]
                  simp [hask]
                · have e0 : askedB (s'.take k r) k = false := by rw [d5, hdu k]; rfl
                  refine ⟨⟨rv2, _, hq2.setOther (a := ⟨cb, i, none⟩) (Or.inr rfl) _, d1, hdu, fun x hx => ?_, fun x hx => ?_, ?_, ?_⟩, hkk.set (a := ⟨cb, i, none⟩) (fun hc => ?_) _⟩
                  · by_cases e : x = k
                    · subst e; simp [QS.take, upd_same] at hx
                    · rw [show (s'.take k r).pl x = s'.pl x from upd_other _ e _] at hx
                      exact hp3 x hx
                  · by_cases e : x = k
                    · subst e; rw [e0] at hx; cases hx
                    · rw [d6 x e] at hx; exact hsub x hx
                  · have : s'.row.length = r.length + 1 := by rw [hrow]; rfl
                    show r.length + (j + 1) ≤ 6
                    omega
                  · refine boolsOf_set hcm2 hi ?_ (fun y hy => ?_)
                    · rw [hsub k hask, e0]; rfl
                    · rw [d6 y hy]
                  · have := HC.out cb hc
                    have := HCB.out
                    omega
              clear hq hd hdu hp3 hsub hrl hcm hK hrow H1 d1 hkK hask d5 d6 hz3
              go_wp2_with fail
              refine htk.mono ?_
              rintro e w2 ⟨rfl, hq2⟩
              obtain ⟨hcells, hnx⟩ := HN.out w2 hq2
              have HNX : Hid (∀ i, KS[i]? = some k → w2.cell? ⟨cb, i, none⟩ = some (.bool false) ∧ (∀ o, w2.frozen? ⟨cb, o, none⟩ = false) ∧ Ph3 C w s (s.ck + 19) qb pm dm fm cb (j + 1) (w2.setCell ⟨cb, i, none⟩ (.bool true))) := hnx
              have hpl' := hpl w2 hcells
              simp only [KS_len] at hpl'
              clear hq2 hcells hpl htk HN hnx
              go_wp2_with fail
              refine hpl'.mono ?_
              rintro e w3 ⟨rr, rfl, rfl, hor⟩
              rcases hor with ⟨i, rfl, hi⟩ | ⟨_, hno⟩
              · obtain ⟨hc1, hf1, h3⟩ := HNX.out i hi
                have H3 : Hid (Ph3 C w s (s.ck + 19) qb pm dm fm cb (j + 1) (w3.setCell ⟨cb, i, none⟩ (.bool true))) := h3
                have hi6 : i < 6 := by have := (List.getElem?_eq_some_iff.1 hi).1; rw [KS_len] at this; exact this
                have hi0 : ¬ ((i : Int) < 0) := by omega
                have hd0 : decide ((i : Int) < 0) = false := decide_eq_false hi0
                clear hpl' hi h3 HNX
                go_wp2
                go_roundw
                case rel => exact ⟨j + 1, by omega, by simp, H3⟩
                case measure => simp [intOf]; omega
              · exact absurd HKK.out hno
end

end Go.Proofs.Ytdgfjneapialdaa
