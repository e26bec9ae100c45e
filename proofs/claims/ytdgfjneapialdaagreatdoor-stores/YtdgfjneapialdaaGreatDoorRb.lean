import Derived.Test.YtdgfjneapialdaaGreatDoorRa
import Derived.Test.YtdgfjneapialdaaGreatDoorYg
namespace Go.Proofs.YtdgfjneapialdaaGreatDoor.S
open Go Go.RowKit Go.Maps

/-- Is it the object of this kind and name? -/
def isAt (kk : Int) (nm : ByteArray) (x : Ob) : Bool := x.kind == kk && x.name.toList == nm.toList
/-- Where the object of a kind and a name stands in a list; -1: nowhere. -/
def atL (kk : Int) (nm : ByteArray) (l : List Ob) : Int := match l.findIdx? (isAt kk nm) with
  | some i => i
  | none => -1

theorem atL_hit {kk : Int} {nm : ByteArray} {l : List Ob} {k : Nat} (hk : k < l.length) (hn : ∀ x ∈ l.take k, isAt kk nm x = false) (h : isAt kk nm l[k] = true) : atL kk nm l = k := by
  have : l.findIdx? (isAt kk nm) = some k := by
    rw [List.findIdx?_eq_some_iff_getElem]
    refine ⟨hk, h, fun j hj => ?_⟩
    have := hn l[j] (List.mem_take_iff_getElem.2 ⟨j, by omega, rfl⟩)
    simp [this]
  simp [atL, this]
theorem atL_miss {kk : Int} {nm : ByteArray} {l : List Ob} (hn : ∀ x ∈ l, isAt kk nm x = false) : atL kk nm l = -1 := by
  have : l.findIdx? (isAt kk nm) = none := by
    rw [List.findIdx?_eq_none_iff]
    exact hn
  simp [atL, this]

set_option maxRecDepth 100000 in
set_option maxHeartbeats 400000 in
theorem at_any (w : World) (base : Nat) (v : Value) (l : List Ob) (kk : Int) (nm : ByteArray) (hrow : w.ownsRow base 84 9 v l.length (flatO l)) (hl : l.length ≤ 10000) (hkb : ∀ x ∈ l, 0 ≤ x.kind ∧ x.kind ≤ 255) :
    Calls Tryz.prog 117 #[v, .int .i64 kk, .string nm] w fun e w' => e = .returned (.int .i64 (atL kk nm l)) ∧ Below w.heap.size w w' := by
  obtain ⟨ad, cap, rfl, had⟩ := row_form hrow
  have Hrow : Hid (w.ownsRow base 84 9 (.slice ad l.length cap) l.length (flatO l)) := hrow
  have Hkb : Hid (∀ x ∈ l, 0 ≤ x.kind ∧ x.kind ≤ 255) := hkb
  clear hrow hkb
  go_enter Tryz.func117, Tryz.ntmps117
  go_wp2
  go_loopw [7] (fun i wr => ∃ k : Nat, k ≤ l.length ∧ i = .int .i64 k ∧ Hid (∀ x ∈ l.take k, isAt kk nm x = false) ∧ Hid (Below w.heap.size w wr)) (fun i _ => l.length - (intOf i).toNat)
  case atStart => exact ⟨0, Nat.zero_le _, rfl, (fun x hx => by simp at hx), Below.refl _ _⟩
  case round =>
    obtain ⟨k, hk, rfl, Hn, Hbw⟩ := hrel
    by_cases hlt : k < l.length
    · obtain ⟨g, rfl, hgb, hgs⟩ := had (by omega)
      have hc := row_cells Hrow.out Hbw.out hlt
      have hx0 := Hkb.out l[k] (List.getElem_mem hlt)
      obtain ⟨x, hx⟩ : ∃ x, x = l[k] := ⟨_, rfl⟩
      rw [← hx] at hc hx0
      have q0 : wr.cell? ⟨g, k * 9, none⟩ = some (.int .u8 x.kind) := hc 0 _ (by omega) rfl
      have q1 : wr.cell? ⟨g, k * 9 + 1, none⟩ = some (.string x.name) := hc 1 _ (by omega) rfl
      have HX : Hid (x = l[k]) := hx
      have HS : Hid (isAt kk nm x = false → ∀ y ∈ l.take (k + 1), isAt kk nm y = false) := by
        intro he y hy
        rw [List.take_succ_eq_append_getElem hlt, List.mem_append, List.mem_singleton, ← hx] at hy
        rcases hy with hy | rfl
        · exact Hn.out y hy
        · exact he
      clear hc hx
      by_cases hkd : x.kind = kk
      · have hb1 : (x.kind == kk) = true := by simp [hkd]
        by_cases hnm : x.name.toList = nm.toList
        · have hb2 : (x.name.toList == nm.toList) = true := by simp [hnm]
          have hat : Hid (isAt kk nm x = true) := by unfold Hid isAt; rw [hb1, hb2]; rfl
          clear hkd hnm
          go_wp2
          go_ret
          exact ⟨ret_int (atL_hit hlt Hn.out (by rw [← HX.out]; exact hat.out)).symm, Hbw.out⟩
        · have hb2 : (x.name.toList == nm.toList) = false := by simp [hnm]
          have hat : Hid (isAt kk nm x = false) := by unfold Hid isAt; rw [hb1, hb2]; rfl
          clear hkd hnm
          go_wp2
          go_roundw
          case rel => exact ⟨k + 1, by omega, by simp, HS.out hat.out, Hbw⟩
          case measure => simp [intOf]; omega
      · have hb1 : (x.kind == kk) = false := by simp [hkd]
        have hat : Hid (isAt kk nm x = false) := by unfold Hid isAt; rw [hb1]; rfl
        clear hkd
        go_wp2
        go_roundw
        case rel => exact ⟨k + 1, by omega, by simp, HS.out hat.out, Hbw⟩
        case measure => simp [intOf]; omega
    · have hkl : k = l.length := by omega
      subst hkl
      have hlt2 : ¬ ((l.length : Int) < (l.length : Int)) := by omega
      go_wp2
      go_ret
      exact ⟨ret_int (atL_miss (fun x hx => Hn.out x (by rw [List.take_length]; exact hx))).symm, Hbw.out⟩

end Go.Proofs.YtdgfjneapialdaaGreatDoor.S

namespace Go.Proofs.YtdgfjneapialdaaGreatDoor.S
open Go Go.RowKit Go.Maps

theorem neq43 (x : Ob) (w : World) : Sem.run Tryz.prog (binOp .neq 84 (.agg #[.int .u8 x.kind, .string x.name, .int .i64 x.uid, .int .i64 x.version, .int .i64 x.replicas, .int .i64 x.status, .int .i64 x.owner, .int .u8 x.phase, .bool x.gone]) (.agg #[.int .u8 x.kind, .string x.name, .int .i64 x.uid, .int .i64 x.version, .int .i64 x.replicas, .int .i64 x.status, .int .i64 x.owner, .int .u8 x.phase, .bool x.gone])) w = .ok (.bool false) w := by
  have h := eq29 x.kind x.name x.uid x.version x.replicas x.status x.owner x.phase x.gone x.kind x.name x.uid x.version x.replicas x.status x.owner x.phase x.gone w
  rw [eqB_self, run_eql_struct] at h
  rw [run_neq_struct]
  cases hE : (Op.equalIn 10000 84 (.agg #[.int .u8 x.kind, .string x.name, .int .i64 x.uid, .int .i64 x.version, .int .i64 x.replicas, .int .i64 x.status, .int .i64 x.owner, .int .u8 x.phase, .bool x.gone]) (.agg #[.int .u8 x.kind, .string x.name, .int .i64 x.uid, .int .i64 x.version, .int .i64 x.replicas, .int .i64 x.status, .int .i64 x.owner, .int .u8 x.phase, .bool x.gone])).run Tryz.prog w <;> simp [hE, Result.andThen] at h ⊢
  exact h

set_option maxRecDepth 100000 in
set_option maxHeartbeats 400000 in
theorem sameObjects_any (w : World) (base1 base2 : Nat) (v1 v2 : Value) (l : List Ob) (hr1 : w.ownsRow base1 84 9 v1 l.length (flatO l)) (hr2 : w.ownsRow base2 84 9 v2 l.length (flatO l)) (hl : l.length ≤ 10000) :
    Calls Tryz.prog 55 #[v1, v2] w fun e w' => e = .returned (.bool true) ∧ Below w.heap.size w w' := by
  obtain ⟨ad1, cap1, rfl, had1⟩ := row_form hr1
  obtain ⟨ad2, cap2, rfl, had2⟩ := row_form hr2
  have Hr1 : Hid (w.ownsRow base1 84 9 (.slice ad1 l.length cap1) l.length (flatO l)) := hr1
  have Hr2 : Hid (w.ownsRow base2 84 9 (.slice ad2 l.length cap2) l.length (flatO l)) := hr2
  clear hr1 hr2
  go_enter Tryz.func55, Tryz.ntmps55
  go_wp2
  go_loopw [5] (fun i wr => ∃ k : Nat, k ≤ l.length ∧ i = .int .i64 k ∧ Hid (Below w.heap.size w wr)) (fun i _ => l.length - (intOf i).toNat)
  case atStart => exact ⟨0, Nat.zero_le _, rfl, Below.refl _ _⟩
  case round =>
    obtain ⟨k, hk, rfl, Hbw⟩ := hrel
    by_cases hlt : k < l.length
    · obtain ⟨g1, rfl, hgb1, hgs1⟩ := had1 (by omega)
      obtain ⟨g2, rfl, hgb2, hgs2⟩ := had2 (by omega)
      have hc1 := row_cells Hr1.out Hbw.out hlt
      have hc2 := row_cells Hr2.out Hbw.out hlt
      obtain ⟨x, hx⟩ : ∃ x, x = l[k] := ⟨_, rfl⟩
      rw [← hx] at hc1 hc2
      have p0 : wr.cell? ⟨g1, k * 9, none⟩ = some (.int .u8 x.kind) := hc1 0 _ (by omega) rfl
      have p1 : wr.cell? ⟨g1, k * 9 + 1, none⟩ = some (.string x.name) := hc1 1 _ (by omega) rfl
      have p2 : wr.cell? ⟨g1, k * 9 + 2, none⟩ = some (.int .i64 x.uid) := hc1 2 _ (by omega) rfl
      have p3 : wr.cell? ⟨g1, k * 9 + 3, none⟩ = some (.int .i64 x.version) := hc1 3 _ (by omega) rfl
      have p4 : wr.cell? ⟨g1, k * 9 + 4, none⟩ = some (.int .i64 x.replicas) := hc1 4 _ (by omega) rfl
      have p5 : wr.cell? ⟨g1, k * 9 + 5, none⟩ = some (.int .i64 x.status) := hc1 5 _ (by omega) rfl
      have p6 : wr.cell? ⟨g1, k * 9 + 6, none⟩ = some (.int .i64 x.owner) := hc1 6 _ (by omega) rfl
      have p7 : wr.cell? ⟨g1, k * 9 + 7, none⟩ = some (.int .u8 x.phase) := hc1 7 _ (by omega) rfl
      have p8 : wr.cell? ⟨g1, k * 9 + 8, none⟩ = some (.bool x.gone) := hc1 8 _ (by omega) rfl
      have q0 : wr.cell? ⟨g2, k * 9, none⟩ = some (.int .u8 x.kind) := hc2 0 _ (by omega) rfl
      have q1 : wr.cell? ⟨g2, k * 9 + 1, none⟩ = some (.string x.name) := hc2 1 _ (by omega) rfl
      have q2 : wr.cell? ⟨g2, k * 9 + 2, none⟩ = some (.int .i64 x.uid) := hc2 2 _ (by omega) rfl
      have q3 : wr.cell? ⟨g2, k * 9 + 3, none⟩ = some (.int .i64 x.version) := hc2 3 _ (by omega) rfl
      have q4 : wr.cell? ⟨g2, k * 9 + 4, none⟩ = some (.int .i64 x.replicas) := hc2 4 _ (by omega) rfl
      have q5 : wr.cell? ⟨g2, k * 9 + 5, none⟩ = some (.int .i64 x.status) := hc2 5 _ (by omega) rfl
      have q6 : wr.cell? ⟨g2, k * 9 + 6, none⟩ = some (.int .i64 x.owner) := hc2 6 _ (by omega) rfl
      have q7 : wr.cell? ⟨g2, k * 9 + 7, none⟩ = some (.int .u8 x.phase) := hc2 7 _ (by omega) rfl
      have q8 : wr.cell? ⟨g2, k * 9 + 8, none⟩ = some (.bool x.gone) := hc2 8 _ (by omega) rfl
      have hq := neq43 x
      have hg := guard29
      clear hc1 hc2 hx
      go_wp2_with fail
      go_quiet (fail)
      go_wp2
      go_roundw
      case rel => exact ⟨k + 1, by omega, by simp, belowDN Hbw.out _⟩
      case measure => simp [intOf]; omega
    · have hkl : k = l.length := by omega
      subst hkl
      have hlt2 : ¬ ((l.length : Int) < (l.length : Int)) := by omega
      go_wp2
      go_ret
      exact ⟨rfl, Hbw.out⟩

end Go.Proofs.YtdgfjneapialdaaGreatDoor.S
