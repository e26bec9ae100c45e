import Derived.Test.YtdgfjneapialdaaQr
import Derived.Deep.RegionWith
namespace Go.Proofs.Ytdgfjneapialdaa
open Go Go.RowKit Go.Maps Go.Lib

/-- The acts, as they lie. -/
structure ActsAt (w : World) (b off len : Nat) (ac : Nat → Int × Int × Int) : Prop where
  lt : b < w.heap.size
  c0 : ∀ i, i < len → w.cell? ⟨b, off + i * 3, none⟩ = some (.int .i64 (ac i).1)
  c1 : ∀ i, i < len → w.cell? ⟨b, off + i * 3 + 1, none⟩ = some (.int .i64 (ac i).2.1)
  c2 : ∀ i, i < len → w.cell? ⟨b, off + i * 3 + 2, none⟩ = some (.int .i64 (ac i).2.2)
  b0 : ∀ i, i < len → -9223372036854775808 ≤ (ac i).1 ∧ (ac i).1 ≤ 9223372036854775807
  b1 : ∀ i, i < len → -9223372036854775808 ≤ (ac i).2.1 ∧ (ac i).2.1 ≤ 9223372036854775807
  b2 : ∀ i, i < len → -9223372036854775808 ≤ (ac i).2.2 ∧ (ac i).2.2 ≤ 9223372036854775807

def DrC (N M : Nat) : Nat → Prop := fun b => b < N ∨ (M ≤ b ∧ b < M + 3)
def keysArr : Array Value := (KS.map Value.string).toArray

/-- All that the walk has made; what it notes is a and h. -/
structure DrW (w : World) (M : Nat) (wr : World) (a h : ByteArray → Bool) (s : QS) : Prop where
  q : ∃ rv, IsQ (DrC w.heap.size M) UU wr (w.heap.size + 3) w.heap.size (w.heap.size + 1) (w.heap.size + 2) rv s
  ba : wr.heap[M]? = some (.cells (boolsOf a) 4 (0, 0))
  bh : wr.heap[M + 1]? = some (.cells (boolsOf h) 4 (0, 0))
  bk : wr.heap[M + 1 + 1]? = some (.cells keysArr 9 (0, 0))
  bel : Below w.heap.size w wr
  low : w.heap.size ≤ M

section
variable {w : World} {M : Nat} {wr w2 : World} {a h a' h' : ByteArray → Bool} {s s' : QS}
theorem DrW.sz (g : DrW w M wr a h s) : M + 3 ≤ wr.heap.size := by
  have := (Array.getElem?_eq_some_iff.1 g.bk).1
  omega
theorem DrW.cov (g : DrW w M wr a h s) : ∀ b, DrC w.heap.size M b → b < wr.heap.size := by
  intro b hb
  have := g.sz
  have := g.low
  have := g.bel.size
  rcases hb with hb | hb <;> omega
theorem DrW.call (g : DrW w M wr a h s) (hq : QIs (DrC w.heap.size M) UU wr w2 (w.heap.size + 3) w.heap.size (w.heap.size + 1) (w.heap.size + 2) s') : DrW w M w2 a h s' := by
  have hz := g.sz
  obtain ⟨hq1, hk⟩ := hq
  refine ⟨hq1, (hk.block _ (Or.inr ⟨Nat.le_refl _, by omega⟩) (by omega)).trans g.ba, (hk.block _ (Or.inr ⟨by omega, by omega⟩) (by omega)).trans g.bh, (hk.block _ (Or.inr ⟨by omega, by omega⟩) (by omega)).trans g.bk, ?_, g.low⟩
  have h1 := g.bel.size
  exact g.bel.trans ⟨hk.os, hk.tape, hk.output, hk.size, fun b hb => hk.block b (Or.inl hb) (by omega)⟩
theorem DrW.below (g : DrW w M wr a h s) (hb : Below wr.heap.size wr w2) : DrW w M w2 a h s := by
  obtain ⟨rv, hq⟩ := g.q
  exact g.call ⟨⟨rv, hq.below hb⟩, KeptC.of_below hb rfl⟩
theorem DrW.setA (g : DrW w M wr a h s) {j : Nat} {k : ByteArray} (hj : KS[j]? = some k) {x : Bool} (hk : a' k = x) (ho : ∀ y, y ≠ k → a' y = a y) : DrW w M (wr.setCell ⟨M, j, none⟩ (.bool x)) a' h s := by
  obtain ⟨rv, hq⟩ := g.q
  have hl := g.low
  refine ⟨⟨rv, hq.setOther (a := ⟨M, j, none⟩) (Or.inr ⟨Nat.le_refl _, by show M < M + 3; omega⟩) _⟩, boolsOf_set g.ba hj hk ho, (Below.heap_setCell _ _ _ _ (by show M + 1 ≠ M; omega)).trans g.bh, (Below.heap_setCell _ _ _ _ (by show M + 1 + 1 ≠ M; omega)).trans g.bk, ?_, g.low⟩
  have h1 := g.bel
  exact ⟨h1.os, h1.tape, h1.output, by simpa [World.setCell] using h1.size, fun b hb => (Below.heap_setCell _ _ _ _ (by show b ≠ M; omega)).trans (h1.block b hb)⟩
theorem DrW.setH (g : DrW w M wr a h s) {j : Nat} {k : ByteArray} (hj : KS[j]? = some k) {x : Bool} (hk : h' k = x) (ho : ∀ y, y ≠ k → h' y = h y) : DrW w M (wr.setCell ⟨M + 1, j, none⟩ (.bool x)) a h' s := by
  obtain ⟨rv, hq⟩ := g.q
  have hl := g.low
  refine ⟨⟨rv, hq.setOther (a := ⟨M + 1, j, none⟩) (Or.inr ⟨by show M ≤ M + 1; omega, by show M + 1 < M + 3; omega⟩) _⟩, (Below.heap_setCell _ _ _ _ (by show M ≠ M + 1; omega)).trans g.ba, boolsOf_set g.bh hj hk ho, (Below.heap_setCell _ _ _ _ (by show M + 1 + 1 ≠ M + 1; omega)).trans g.bk, ?_, g.low⟩
  have h1 := g.bel
  exact ⟨h1.os, h1.tape, h1.output, by simpa [World.setCell] using h1.size, fun b hb => (Below.heap_setCell _ _ _ _ (by show b ≠ M + 1; omega)).trans (h1.block b hb)⟩
theorem DrW.congr (g : DrW w M wr a h s) (ha : ∀ x, a' x = a x) (hh : ∀ x, h' x = h x) : DrW w M wr a' h' s := by
  rw [funext ha, funext hh]
  exact g
theorem DrW.key (g : DrW w M wr a h s) {j : Nat} {k : ByteArray} (hj : KS[j]? = some k) : wr.cell? ⟨M + 1 + 1, j, none⟩ = some (.string k) := by
  simp only [World.cell?, g.bk, keysArr]
  simp [hj]
theorem DrW.keys (g : DrW w M wr a h s) : ∀ j (hj : j < KS.length), wr.cell? ⟨M + 1 + 1, j, none⟩ = some (.string KS[j]) := fun j hj => g.key (by simp [hj])
end

/-- What holds ahead of each act. -/
def DrG (w : World) (M k : Nat) (wr : World) : Prop := ∃ s, DrW w M wr (askedB s) (handB s) s ∧ DrI (s.ck + 19) s ∧ s.ck ≤ k

theorem DrG.start {w w1 : World} (hq : IsQ (fun b => b < w.heap.size) UU w1 (w.heap.size + 3) w.heap.size (w.heap.size + 1) (w.heap.size + 2) (.slice none 0 0) QS.new) (hb : Below w.heap.size w w1) :
    DrG w w1.heap.size 0 (((w1.alloc (.cells #[.bool false, .bool false, .bool false, .bool false, .bool false, .bool false] 4)).alloc (.cells #[.bool false, .bool false, .bool false, .bool false, .bool false, .bool false] 4)).alloc (.cells #[.string ⟨#[97]⟩, .string ⟨#[98]⟩, .string ⟨#[99]⟩, .string ⟨#[100, 100]⟩, .string ⟨#[101]⟩, .string ⟨#[102, 102, 102, 102, 102, 102, 102, 102]⟩] 9)) := by
  have ha : ∀ (W : World) (o : Obj), (W.alloc o).heap[W.heap.size]? = some o := fun W o => (MapKept.heap_alloc W o).1
  have hbo : ∀ (W : World) (o : Obj) (i : Nat), i < W.heap.size → (W.alloc o).heap[i]? = W.heap[i]? := fun W o i hi => Below.heap_alloc W o i hi
  refine ⟨QS.new, ⟨⟨_, ((((hq.more (fun b h1 h2 => ?_)).alloc _).alloc _).alloc _)⟩, ?_, ?_, ?_, belowAl (belowAl (belowAl hb _) _) _, hb.size⟩, ⟨QOk.new _, fun k hk => by simp [QS.new] at hk, fun k t hk => by simp [QS.new] at hk⟩, by show (0 : Int) ≤ _; omega⟩
  · rcases h2 with h2 | h2
    · exact h2
    · omega
  · rw [hbo _ _ _ (by simp; omega), hbo _ _ _ (by simp), ha]
    rfl
  · rw [hbo _ _ _ (by simp)]
    have := ha (w1.alloc (.cells #[.bool false, .bool false, .bool false, .bool false, .bool false, .bool false] 4)) (.cells #[.bool false, .bool false, .bool false, .bool false, .bool false, .bool false] 4)
    simp only [World.size_alloc] at this
    rw [this]
    rfl
  · have := ha ((w1.alloc (.cells #[.bool false, .bool false, .bool false, .bool false, .bool false, .bool false] 4)).alloc (.cells #[.bool false, .bool false, .bool false, .bool false, .bool false, .bool false] 4)) (.cells #[.string ⟨#[97]⟩, .string ⟨#[98]⟩, .string ⟨#[99]⟩, .string ⟨#[100, 100]⟩, .string ⟨#[101]⟩, .string ⟨#[102, 102, 102, 102, 102, 102, 102, 102]⟩] 9)
    simp only [World.size_alloc] at this
    rw [this]
    rfl
theorem pick_nat (c n : Int) (hn : 0 < n) : ∃ j : Nat, pickI c n = (j : Int) ∧ (j : Int) < n := by
  have := pickI_bd c n hn
  exact ⟨(pickI c n).toNat, by omega, by omega⟩
theorem KS0 {i : Nat} : KS[i]? ≠ some ⟨#[]⟩ := by
  intro h
  have := List.mem_of_getElem? h
  simp [KS] at this

set_option maxRecDepth 100000 in
set_option maxHeartbeats 1000000 in
theorem drained_any (ao : Option Addr) (len cap : Nat) (w : World) (hA : 0 < len → ∃ b off ac, ao = some ⟨b, off, none⟩ ∧ ActsAt w b off len ac) (hlen : len ≤ 140737488355328) :
    Calls Try.prog 3 #[.slice ao len cap] w fun e w' => e = .returned (.bool true) ∧ Below w.heap.size w w' := by
  have HAO : Hid (0 < len → ∃ b off ac, ao = some ⟨b, off, none⟩ ∧ ActsAt w b off len ac) := hA
  have hU : UU.length ≤ 1000000 := by rw [UU_len]; omega
  have hnew := new_any (fun b => b < w.heap.size) UU w (fun b hb => hb)
  have hmk := make6
  clear hA
  go_enter Try.func3, Try.ntmps3
  go_wp2_with fail
  refine hnew.mono ?_
  rintro e w1 ⟨rfl, hq1, hb1⟩
  have HQ1 : Hid (IsQ (fun b => b < w.heap.size) UU w1 (w.heap.size + 3) w.heap.size (w.heap.size + 1) (w.heap.size + 2) (.slice none 0 0) QS.new) := hq1
  have HB1 : Hid (Below w.heap.size w w1) := hb1
  clear hq1 hb1 hnew
  go_wp2
  have HG0 := DrG.start HQ1.out HB1.out
  generalize (((w1.alloc (.cells #[.bool false, .bool false, .bool false, .bool false, .bool false, .bool false] 4)).alloc (.cells #[.bool false, .bool false, .bool false, .bool false, .bool false, .bool false] 4)).alloc (.cells #[.string ⟨#[97]⟩, .string ⟨#[98]⟩, .string ⟨#[99]⟩, .string ⟨#[100, 100]⟩, .string ⟨#[101]⟩, .string ⟨#[102, 102, 102, 102, 102, 102, 102, 102]⟩] 9)) = W0 at *
  generalize w1.heap.size = M at *
  have HG : Hid (DrG w M 0 W0) := HG0
  clear HG0 HQ1 HB1 hmk
  go_loopw [7] (fun i wr => ∃ k : Nat, k ≤ len ∧ i = .int .i64 k ∧ Hid (DrG w M k wr)) (fun i _ => len - (intOf i).toNat)
  case atStart => exact ⟨0, Nat.zero_le _, rfl, HG⟩
  case round =>
    obtain ⟨k, hk, rfl, HGk⟩ := hrel
    clear HG
    by_cases hlt : k < len
    · obtain ⟨s, hw, hd, hck⟩ := HGk.out
      obtain ⟨b, off, ac, rfl, hA⟩ := HAO.out (by omega)
      have HA : Hid (ActsAt w b off len ac) := hA
      clear hA HAO
      have hbb := HA.out.lt
      have q0 : wr.cell? ⟨b, off + k * 3, none⟩ = some (.int .i64 (ac k).1) := (hw.bel.cell (p := ⟨b, _, none⟩) hbb).trans (HA.out.c0 k hlt)
      have q1 : wr.cell? ⟨b, off + k * 3 + 1, none⟩ = some (.int .i64 (ac k).2.1) := (hw.bel.cell (p := ⟨b, _, none⟩) hbb).trans (HA.out.c1 k hlt)
      have q2 : wr.cell? ⟨b, off + k * 3 + 2, none⟩ = some (.int .i64 (ac k).2.2) := (hw.bel.cell (p := ⟨b, _, none⟩) hbb).trans (HA.out.c2 k hlt)
      obtain ⟨j, hj, hj6⟩ := pick_nat (ac k).2.1 6 (by omega)
      have hp1 := fun W => pick_any (ac k).2.1 6 W (HA.out.b1 k hlt).1 (HA.out.b1 k hlt).2 (by omega) (by omega)
      rw [hj] at hp1
      obtain ⟨key, hkey, hkm⟩ := ks_get (j := j) (by omega)
      have hkc := hw.key hkey
      have hk8 := UU_8 key (KS_U hkm)
      obtain ⟨rv, hq⟩ := hw.q
      have hp0 := fun W => pick_any (ac k).1 6 W (HA.out.b0 k hlt).1 (HA.out.b0 k hlt).2 (by omega) (by omega)
      have hkd := pickI_bd (ac k).1 6 (by omega)
      have hlti : ((k : Int) < (len : Int)) := by omega
      have hsz := hw.sz
      have hfa := fun o => boolsOf_fz hw.ba o
      have hca := fun i k' (h : KS[i]? = some k') => boolsOf_cell hw.ba h
      have hkd6 : pickI (ac k).1 6 = 0 ∨ pickI (ac k).1 6 = 1 ∨ pickI (ac k).1 6 = 2 ∨ pickI (ac k).1 6 = 3 ∨ pickI (ac k).1 6 = 4 ∨ pickI (ac k).1 6 = 5 := by omega
      clear hkd hj
      rcases hkd6 with hkd | hkd | hkd | hkd | hkd | hkd
      · rw [hkd] at hp0
        have hc := addc_any hq hw.cov hU hd.ok key hk8.1 hk8.2 (KS_U hkm)
        have HN : Hid (∀ w2, QIs (DrC w.heap.size M) UU wr w2 (w.heap.size + 3) w.heap.size (w.heap.size + 1) (w.heap.size + 2) (s.add key) → (w2.cell? ⟨M, j, none⟩ = some (.bool (askedB s key)) ∧ ∀ o, w2.frozen? ⟨M, o, none⟩ = false) ∧ DrG w M (k + 1) (w2.setCell ⟨M, j, none⟩ (.bool true))) := by
          intro w2 hq2
          obtain ⟨d1, d2, d3, d4⟩ := hd.add hkm
          have g := hw.call hq2
          have e := (add_du s key).2.1
          refine ⟨⟨boolsOf_cell g.ba hkey, fun o => boolsOf_fz g.ba o⟩, s.add key, ((g.setA (a' := askedB (s.add key)) hkey d2 d3).congr (fun _ => rfl) d4), by rw [e]; exact d1, by rw [e]; omega⟩
        clear hkd hq hd hw hkm hkey hk8 hck HGk hfa hca
        go_wp2_with fail
        refine (hp1 _).mono ?_
        rintro e w' ⟨rfl, rfl⟩
        go_wp2_with fail
        refine (hp0 _).mono ?_
        rintro e w' ⟨rfl, rfl⟩
        go_wp2_with fail
        refine hc.mono ?_
        rintro e w2 ⟨rfl, hq2⟩
        obtain ⟨⟨hc1, hf1⟩, hg⟩ := HN.out w2 hq2
        have HG2 : Hid (DrG w M (k + 1) (w2.setCell ⟨M, j, none⟩ (.bool true))) := hg
        clear hq2 hc HN hg hp0 hp1
        go_wp2
        go_roundw
        case rel => exact ⟨k + 1, by omega, by go_num, HG2⟩
        case measure => simp [intOf]; omega
      · rw [hkd] at hp0
        obtain ⟨t, ht, ht20⟩ := pick_nat (ac k).2.2 20 (by omega)
        have hp2 := fun W => pick_any (ac k).2.2 20 W (HA.out.b2 k hlt).1 (HA.out.b2 k hlt).2 (by omega) (by omega)
        rw [ht] at hp2
        have hc := afterc_any hq.drew hw.cov hU hd.ok (by omega) key hk8.1 hk8.2 (KS_U hkm) (t : Int)
        have HN : Hid (∀ w2, QIs (DrC w.heap.size M) UU wr.drew w2 (w.heap.size + 3) w.heap.size (w.heap.size + 1) (w.heap.size + 2) (s.after key (t : Int)) → (w2.cell? ⟨M, j, none⟩ = some (.bool (askedB s key)) ∧ ∀ o, w2.frozen? ⟨M, o, none⟩ = false) ∧ DrG w M (k + 1) (w2.setCell ⟨M, j, none⟩ (.bool true))) := by
          intro w2 hq2
          have g := hw.call (w2 := w2) (s' := s.after key (t : Int)) ⟨hq2.1, ⟨hq2.2.os, hq2.2.tape, hq2.2.output, hq2.2.size, hq2.2.block⟩⟩
          refine ⟨⟨boolsOf_cell g.ba hkey, fun o => boolsOf_fz g.ba o⟩, s.after key (t : Int), ?_⟩
          unfold QS.after at g ⊢
          by_cases h0 : (t : Int) ≤ 0
          · rw [if_pos h0] at g ⊢
            obtain ⟨d1, d2, d3, d4⟩ := hd.add hkm
            have e := (add_du s key).2.1
            exact ⟨((g.setA (a' := askedB (s.add key)) hkey d2 d3).congr (fun _ => rfl) d4), by rw [e]; exact d1, by rw [e]; omega⟩
          · rw [if_neg h0] at g ⊢
            obtain ⟨d1, d2, d3, d4⟩ := hd.dueIn hkm (t := min (t : Int) 1000) (by omega) (by omega)
            have e := (dueIn_pl s key (min (t : Int) 1000)).2.1
            exact ⟨((g.setA (a' := askedB (s.dueIn key (min (t : Int) 1000))) hkey d2 d3).congr (fun _ => rfl) d4), by rw [e]; exact d1, by rw [e]; omega⟩
        clear hkd hq hd hw hkm hkey hk8 hck HGk hfa hca ht
        go_wp2_with fail
        refine (hp1 _).mono ?_
        rintro e w' ⟨rfl, rfl⟩
        go_wp2_with fail
        refine (hp0 _).mono ?_
        rintro e w' ⟨rfl, rfl⟩
        clear hp0 hp1
        have hj0 : j < 6 := by omega
        go_wp2_with fail
        go_region_with (first
          | (go_at_call 5; refine (hp2 _).mono ?_; rintro e w5 ⟨rfl, rfl⟩)
          | (go_at_call 7; refine hc.mono ?_; rintro e w2 ⟨rfl, hq2⟩))
        all_goals
          obtain ⟨⟨hc1, hf1⟩, hg⟩ := HN.out w2 hq2
          have HG2 : Hid (DrG w M (k + 1) (w2.setCell ⟨M, j, none⟩ (.bool true))) := hg
          clear hq2 hc HN hg hp2
          go_wp2
          go_roundw
          case rel => exact ⟨k + 1, by omega, by go_num, HG2⟩
          case measure => simp [intOf]; omega
      · rw [hkd] at hp0
        have hc := limitedc_any hq hU hd.ok (by omega) key hk8.1 hk8.2 (KS_U hkm)
        have HN : Hid (∀ w2, QIs (DrC w.heap.size M) UU wr w2 (w.heap.size + 3) w.heap.size (w.heap.size + 1) (w.heap.size + 2) (s.limited key) → (w2.cell? ⟨M, j, none⟩ = some (.bool (askedB s key)) ∧ ∀ o, w2.frozen? ⟨M, o, none⟩ = false) ∧ DrG w M (k + 1) (w2.setCell ⟨M, j, none⟩ (.bool true))) := by
          intro w2 hq2
          obtain ⟨d1, d2, d3, d4⟩ := hd.limited hkm (by omega)
          have g := hw.call hq2
          have e : (s.limited key).ck = s.ck := (failed_pl _ _).2.2.trans (dueIn_pl _ _ _).2.1
          refine ⟨⟨boolsOf_cell g.ba hkey, fun o => boolsOf_fz g.ba o⟩, s.limited key, ((g.setA (a' := askedB (s.limited key)) hkey d2 d3).congr (fun _ => rfl) d4), by rw [e]; exact d1, by rw [e]; omega⟩
        clear hkd hq hd hw hkm hkey hk8 hck HGk hfa hca
        go_wp2_with fail
        refine (hp1 _).mono ?_
        rintro e w' ⟨rfl, rfl⟩
        go_wp2_with fail
        refine (hp0 _).mono ?_
        rintro e w' ⟨rfl, rfl⟩
        go_wp2_with fail
        refine hc.mono ?_
        rintro e w2 ⟨rfl, hq2⟩
        obtain ⟨⟨hc1, hf1⟩, hg⟩ := HN.out w2 hq2
        have HG2 : Hid (DrG w M (k + 1) (w2.setCell ⟨M, j, none⟩ (.bool true))) := hg
        clear hq2 hc HN hg hp0 hp1
        go_wp2
        go_roundw
        case rel => exact ⟨k + 1, by omega, by go_num, HG2⟩
        case measure => simp [intOf]; omega
      · rw [hkd] at hp0
        have hc := tick_any hq hw.cov hU UU_8 hd.ok (by omega)
        have HN : Hid (∀ w2 ks, Nexts s ks → QIs (DrC w.heap.size M) UU wr w2 (w.heap.size + 3) w.heap.size (w.heap.size + 1) (w.heap.size + 2) (s.ticked ks) → DrG w M (k + 1) w2) := by
          intro w2 ks hn hq2
          obtain ⟨d1, d2, d3, d4⟩ := hd.ticked hn
          exact ⟨_, (hw.call hq2).congr d2 d3, d1.mono (by rw [d4]; omega), by rw [d4]; omega⟩
        clear hkd hq hd hw hkm hkey hk8 hck HGk hfa hca hkc
        go_wp2_with fail
        refine (hp1 _).mono ?_
        rintro e w' ⟨rfl, rfl⟩
        go_wp2_with fail
        refine (hp0 _).mono ?_
        rintro e w' ⟨rfl, rfl⟩
        go_wp2_with fail
        refine hc.mono ?_
        rintro e w2 ⟨rfl, ks, hn, hq2⟩
        have HG2 : Hid (DrG w M (k + 1) w2) := HN.out w2 _ hn hq2
        clear hq2 hc HN hn hp0 hp1
        go_wp2
        go_roundw
        case rel => exact ⟨k + 1, by omega, by go_num, HG2⟩
        case measure => simp [intOf]; omega
      · rw [hkd] at hp0
        cases hrow : s.row with
        | nil =>
          have htk := take_none hq hrow
          have HN : Hid (∀ w2, QIs (DrC w.heap.size M) UU wr w2 (w.heap.size + 3) w.heap.size (w.heap.size + 1) (w.heap.size + 2) s → DrG w M (k + 1) w2 ∧ ∀ j (hj : j < KS.length), w2.cell? ⟨M + 1 + 1, j, none⟩ = some (.string KS[j])) := by
            intro w2 hq2
            have g := hw.call hq2
            exact ⟨⟨s, g, hd, by omega⟩, g.keys⟩
          have hpl := fun W (hc : ∀ j (hj : j < KS.length), W.cell? ⟨M + 1 + 1, j, none⟩ = some (.string KS[j])) => place_any (M + 1 + 1) KS ⟨#[]⟩ W hc (by rw [KS_len]; omega)
          clear hkd hq hd hw hkm hkey hk8 hck HGk hfa hca hkc hrow
          go_wp2_with fail
          refine (hp1 _).mono ?_
          rintro e w' ⟨rfl, rfl⟩
          go_wp2_with fail
          refine (hp0 _).mono ?_
          rintro e w' ⟨rfl, rfl⟩
          go_wp2_with fail
          refine htk.mono ?_
          rintro e w2 ⟨rfl, hq2⟩
          obtain ⟨hg, hcells⟩ := HN.out w2 hq2
          have HG2 : Hid (DrG w M (k + 1) w2) := hg
          have hpl' := hpl w2 hcells
          simp only [KS_len] at hpl'
          clear hq2 hcells hpl htk HN hg hp0 hp1
          go_wp2_with fail
          refine hpl'.mono ?_
          rintro e w3 ⟨r, rfl, rfl, hor⟩
          rcases hor with ⟨i, _, hi⟩ | ⟨rfl, _⟩
          · exact absurd hi KS0
          · clear hpl'
            go_wp2
            go_roundw
            case rel => exact ⟨k + 1, by omega, by go_num, HG2⟩
            case measure => simp [intOf]; omega
        | cons kk r =>
          obtain ⟨d1, hkK, d2, d3, d4, d5, d6, d7⟩ := hd.take hrow
          have htk := take_some hq hw.cov hU hrow (by have := (UU_8 kk (KS_U hkK)).2; unfold maxLen; omega) (KS_U hkK)
          have HKK : Hid (kk ∈ KS) := hkK
          have HN : Hid (∀ w2, QIs (DrC w.heap.size M) UU wr w2 (w.heap.size + 3) w.heap.size (w.heap.size + 1) (w.heap.size + 2) (s.take kk r) → (∀ j (hj : j < KS.length), w2.cell? ⟨M + 1 + 1, j, none⟩ = some (.string KS[j])) ∧ ∀ i, KS[i]? = some kk → (w2.cell? ⟨M + 1, i, none⟩ = some (.bool false) ∧ ∀ o, w2.frozen? ⟨M + 1, o, none⟩ = false) ∧ w2.cell? ⟨M, i, none⟩ = some (.bool true) ∧
              Calls Try.prog 12 #[.pointer (some ⟨w.heap.size + 3, 0, none⟩), .string kk] (w2.setCell ⟨M + 1, i, none⟩ (.bool true)) fun e w' => e = .returned (.bool (s.du kk).isSome) ∧ Hid ((w'.cell? ⟨M, i, none⟩ = some (.bool true) ∧ ∀ o, w'.frozen? ⟨M, o, none⟩ = false) ∧ DrG w M (k + 1) (w'.setCell ⟨M, i, none⟩ (.bool (s.du kk).isSome)))) := by
            intro w2 hq2
            have g := hw.call hq2
            refine ⟨g.keys, fun i hi => ⟨⟨by rw [boolsOf_cell g.bh hi, d3], fun o => boolsOf_fz g.bh o⟩, by rw [boolsOf_cell g.ba hi, d2], ?_⟩⟩
            have g3 := g.setH (h' := handB (s.take kk r)) hi d6 d7
            obtain ⟨rv3, hq3⟩ := g3.q
            refine (late_any hq3 hU d1.ok kk).mono ?_
            rintro e w' ⟨rfl, hb'⟩
            have g4 := g3.below hb'
            exact ⟨rfl, ⟨⟨by rw [boolsOf_cell g4.ba hi, d2], fun o => boolsOf_fz g4.ba o⟩, s.take kk r, g4.setA (a' := askedB (s.take kk r)) hi d4 d5, d1, by show s.ck ≤ _; omega⟩⟩
          have hpl := fun W (hc : ∀ j (hj : j < KS.length), W.cell? ⟨M + 1 + 1, j, none⟩ = some (.string KS[j])) => place_any (M + 1 + 1) KS kk W hc (by rw [KS_len]; omega)
          generalize (s.du kk).isSome = bb at HN
          clear hkd hq hd hw hkm hkey hk8 hck HGk hfa hca hkc hrow d1 hkK d2 d3 d4 d5 d6 d7
          go_wp2_with fail
          refine (hp1 _).mono ?_
          rintro e w' ⟨rfl, rfl⟩
          go_wp2_with fail
          refine (hp0 _).mono ?_
          rintro e w' ⟨rfl, rfl⟩
          go_wp2_with fail
          refine htk.mono ?_
          rintro e w2 ⟨rfl, hq2⟩
          obtain ⟨hcells, hnx⟩ := HN.out w2 hq2
          have HNX : Hid (∀ i, KS[i]? = some kk → (w2.cell? ⟨M + 1, i, none⟩ = some (.bool false) ∧ ∀ o, w2.frozen? ⟨M + 1, o, none⟩ = false) ∧ w2.cell? ⟨M, i, none⟩ = some (.bool true) ∧
              Calls Try.prog 12 #[.pointer (some ⟨w.heap.size + 3, 0, none⟩), .string kk] (w2.setCell ⟨M + 1, i, none⟩ (.bool true)) fun e w' => e = .returned (.bool bb) ∧ Hid ((w'.cell? ⟨M, i, none⟩ = some (.bool true) ∧ ∀ o, w'.frozen? ⟨M, o, none⟩ = false) ∧ DrG w M (k + 1) (w'.setCell ⟨M, i, none⟩ (.bool bb)))) := hnx
          have hpl' := hpl w2 hcells
          simp only [KS_len] at hpl'
          clear hq2 hcells hpl htk HN hnx hp0 hp1
          go_wp2_with fail
          refine hpl'.mono ?_
          rintro e w3 ⟨rr, rfl, rfl, hor⟩
          rcases hor with ⟨i, rfl, hi⟩ | ⟨_, hno⟩
          · obtain ⟨⟨hc1, hf1⟩, hc2, hlate⟩ := HNX.out i hi
            have hi6 : i < 6 := by have := (List.getElem?_eq_some_iff.1 hi).1; rw [KS_len] at this; exact this
            have hi0 : ((i : Int) ≥ 0) := by omega
            have hd0 : decide ((i : Int) ≥ 0) = true := decide_eq_true hi0
            clear hpl' hi HNX
            go_wp2_with fail
            refine hlate.mono ?_
            rintro e w5 ⟨rfl, H5⟩
            obtain ⟨⟨hc5, hf5⟩, hg⟩ := H5.out
            have HG2 : Hid (DrG w M (k + 1) (w5.setCell ⟨M, i, none⟩ (.bool bb))) := hg
            clear hlate H5 hg
            go_wp2
            go_roundw
            case rel => exact ⟨k + 1, by omega, by go_num, HG2⟩
            case measure => simp [intOf]; omega
          · exact absurd HKK.out hno
      · rw [hkd] at hp0
        have hc := donec_any hq hw.cov hU hd.ok key hk8.1 hk8.2 (KS_U hkm)
        have HN : Hid (∀ w2, QIs (DrC w.heap.size M) UU wr w2 (w.heap.size + 3) w.heap.size (w.heap.size + 1) (w.heap.size + 2) (s.done key) → (w2.cell? ⟨M + 1, j, none⟩ = some (.bool (handB s key)) ∧ ∀ o, w2.frozen? ⟨M + 1, o, none⟩ = false) ∧ DrG w M (k + 1) (w2.setCell ⟨M + 1, j, none⟩ (.bool false))) := by
          intro w2 hq2
          obtain ⟨d1, d2, d3, d4, e⟩ := hd.done hkm
          have g := hw.call hq2
          refine ⟨⟨boolsOf_cell g.bh hkey, fun o => boolsOf_fz g.bh o⟩, s.done key, ((g.setH (h' := handB (s.done key)) hkey d3 d4).congr d2 (fun _ => rfl)), by rw [e]; exact d1, by rw [e]; omega⟩
        clear hkd hq hd hw hkm hkey hk8 hck HGk hfa hca
        go_wp2_with fail
        refine (hp1 _).mono ?_
        rintro e w' ⟨rfl, rfl⟩
        go_wp2_with fail
        refine (hp0 _).mono ?_
        rintro e w' ⟨rfl, rfl⟩
        go_wp2_with fail
        refine hc.mono ?_
        rintro e w2 ⟨rfl, hq2⟩
        obtain ⟨⟨hc1, hf1⟩, hg⟩ := HN.out w2 hq2
        have HG2 : Hid (DrG w M (k + 1) (w2.setCell ⟨M + 1, j, none⟩ (.bool false))) := hg
        clear hq2 hc HN hg hp0 hp1
        go_wp2
        go_roundw
        case rel => exact ⟨k + 1, by omega, by go_num, HG2⟩
        case measure => simp [intOf]; omega
    · have hlti : ¬ ((k : Int) < (len : Int)) := by omega
      obtain ⟨s, hw, hd, hck⟩ := HGk.out
      obtain ⟨rv, hq⟩ := hw.q
      have hdr := drains_any hq hw.cov hd (by omega) (M + 1 + 1) M (Or.inr ⟨by omega, by omega⟩) (Or.inr ⟨by omega, by omega⟩) (fun j k hj => hw.key hj) hw.ba
      have HBW : Hid (Below w.heap.size w wr) := hw.bel
      clear hw hd hck hq HGk
      go_wp2_with fail
      refine hdr.mono ?_
      rintro e w2 ⟨rfl, hk2⟩
      go_wp2
      go_ret
      have h1 := HBW.out.size
      exact ⟨rfl, HBW.out.trans ⟨hk2.os, hk2.tape, hk2.output, hk2.size, fun b hb => hk2.block b (Or.inl hb) (by omega)⟩⟩

end Go.Proofs.Ytdgfjneapialdaa
