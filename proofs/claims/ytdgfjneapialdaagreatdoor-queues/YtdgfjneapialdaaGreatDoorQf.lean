import Derived.Test.YtdgfjneapialdaaGreatDoorQe
import Derived.Test.YtdgfjneapialdaaGreatDoorShelf
namespace Go.Proofs.YtdgfjneapialdaaGreatDoor
open Go Go.RowKit Go.Maps

theorem info9 : (Tryz.prog.info? 9).map (fun i => (i.zero, i.size, i.bytes)) = some (some (.string ⟨#[]⟩), 1, 16) := by kernel_rfl

theorem isKey_any (k : ByteArray) (w : World) (h0 : 1 ≤ k.size) (h1 : k.size ≤ 8) : Calls Tryz.prog 126 #[.string k] w fun e w' => e = .returned (.bool true) ∧ w' = w := by
  have g0 : ((k.size : Int) ≥ 1) := by omega
  have g1 : ((k.size : Int) ≤ 8) := by omega
  go_enter Tryz.func126, Tryz.ntmps126
  go_wp2
  go_ret
  simp

theorem clone_any (k : ByteArray) (w : World) (h1 : k.size ≤ 8) : Calls Tryz.prog 128 #[.string k] w fun e w' => e = .returned (.string k) ∧ Below w.heap.size w w' := by
  have hc := fun w => Tryz.stringslite_Clone k w (by omega)
  clear h1
  go_enter Tryz.func128, Tryz.ntmps128
  go_wp2_with fail
  refine (hc _).mono ?_
  rintro e w' ⟨rfl, hb⟩
  go_wp2
  go_ret
  exact ⟨rfl, hb⟩

section
variable {C : Nat → Prop} {U : List ByteArray} {w : World} {qb pm dm fm : Nat} {rv : Value} {s : QS}

set_option maxRecDepth 100000 in
set_option maxHeartbeats 1000000 in
theorem wait_any (h : IsQ C U w qb pm dm fm rv s) (hC : ∀ b, C b → b < w.heap.size) (hU : U.length ≤ 1000000000000) (hl : s.row.length ≤ U.length) (k : ByteArray) (hs : k.size ≤ 8) (hk : k ∈ U) :
    Calls Tryz.prog 133 #[.pointer (some ⟨qb, 0, none⟩), .string k] w fun e w' => e = .returned (.tuple #[]) ∧ QIs C U w w' qb pm dm fm (s.wait k) := by
  have hs' : k.size ≤ maxLen := by unfold maxLen; omega
  obtain ⟨ao, cap, rfl⟩ := h.row.form
  obtain ⟨w1, hrun, hq1, hk1, hz1⟩ := h.putPl (by unfold maxLen; omega) hs' hk (v := 1) (by omega) (by omega)
  have c2 := h.c2
  have c1 := hq1.c1
  have f1 := hq1.fz
  have hqlt := h.lt
  have hqlt1 := hq1.lt
  obtain ⟨i0, hi, z0, z1, z2⟩ := info_parts info9
  have hrow : Hid (RowAt (w1.alloc (.cells #[.string k] 9)) 9 (.slice ao s.row.length cap) s.row) := (hq1.alloc _).row
  have HQ : Hid (IsQ C U w1 qb pm dm fm (.slice ao s.row.length cap) { s with pl := upd s.pl k (some 1) }) := hq1
  have HK : Hid (KeptC C w w1) := hk1
  have h63 : s.row.length + 1 ≤ maxLen := by unfold maxLen; omega
  have hby : (s.row.length + 1) * 16 ≤ 140737488355328 := by omega
  clear hq1 hk1 h hz1
  go_enter Tryz.func133, Tryz.ntmps133
  go_wp2_with (first
    | (at_builtin; refine wpList_append_rowAt (et := 9) (v := .slice ao s.row.length cap) rfl _ _ 114 rfl i0 (.string ⟨#[]⟩) 16 Tryz.underlying114 hi z0 z1 z2 rfl rfl hrow.out ⟨w1.heap.size, 0, none⟩ 1 k rfl (by simp) rfl h63 hby ?_; intro ao2 cap2 w2 hr2 hg2 hn2; have c1' := (World.cell?_of_block (a := ⟨qb, 1, none⟩) (hg2.block qb (by simp; omega) (fun e => (HQ.out.rq qb e.symm).1 rfl))).trans ((World.cell?_of_block (a := ⟨qb, 1, none⟩) (Below.heap_alloc _ _ _ hqlt1)).trans c1); have f1' := fun o => (World.frozen?_of_block (a := ⟨qb, o, none⟩) (hg2.block qb (by simp; omega) (fun e => (HQ.out.rq qb e.symm).1 rfl))).trans ((World.frozen?_of_block (a := ⟨qb, o, none⟩) (Below.heap_alloc _ _ _ hqlt1)).trans (f1 o)); have HR2 : Hid (RowAt w2 9 (.slice ao2 (s.row.length + 1) cap2) (s.row ++ [k])) := hr2; have HG2 : Hid ((w1.alloc (.cells #[.string k] 9)).grownBy w2 (Value.slice ao s.row.length cap).ownBlock) := hg2; have HN2 : Hid (∀ b, (Value.slice ao2 (s.row.length + 1) cap2).ownBlock = some b → (Value.slice ao s.row.length cap).ownBlock = some b ∨ (w1.alloc (.cells #[.string k] 9)).heap.size ≤ b) := hn2; clear hr2 hg2 hn2; go_frame)
    | go_in)
  go_end0
  refine ⟨rfl, ⟨_, (HQ.out.alloc _).setRow HG2.out HR2.out HN2.out (fun b hb => by have := hC b hb; have := HK.out.size; simp; omega)⟩, ?_⟩
  exact ((HK.out.alloc _).grown HG2.out (fun b e => HQ.out.cr b e)).set HQ.out.cq _
end

end Go.Proofs.YtdgfjneapialdaaGreatDoor
