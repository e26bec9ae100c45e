import Derived.Test.YtdgfjneapialdaaDoorDb
namespace Go.Proofs.YtdgfjneapialdaaDoor
open Go Go.RowKit Go.Maps Go.Lib Go.Sort

def opV (a b c d : UInt8) : List Value := [.int .u8 a.toNat, .string (nameV a.toNat b.toNat), .int .i64 (sgn c.toNat), .int .i64 d.toNat]
def zeroV : List Value := [.int .u8 0, .string ⟨#[]⟩, .int .i64 0, .int .i64 0]
/-- What the document says of Decode, as rows of four cells. -/
def decL : List UInt8 → List (List Value)
  | a :: b :: c :: d :: r => opV a b c d :: decL r
  | [] => []
  | _ => [zeroV]
theorem decL_four (l : List UInt8) (h : 4 ≤ l.length) : decL l = opV (l[0]'(by omega)) (l[1]'(by omega)) (l[2]'(by omega)) (l[3]'(by omega)) :: decL (l.drop 4) := by
  match l, h with
  | a :: b :: c :: d :: r, _ => rfl
theorem decL_some (l : List UInt8) (h : l.length < 4) (h0 : 0 < l.length) : decL l = [zeroV] := by
  match l, h, h0 with
  | [_], _, _ => rfl
  | [_, _], _, _ => rfl
  | [_, _, _], _, _ => rfl
  | _ :: _ :: _ :: _ :: _, h, _ => simp at h; omega
theorem decL_none (l : List UInt8) (h : l.length = 0) : decL l = [] := by
  match l, h with
  | [], _ => rfl
theorem decL_len : ∀ (n : Nat) (l : List UInt8), l.length ≤ n → (decL l).length ≤ l.length
  | 0, l, h => by rw [decL_none l (by omega)]; simp
  | n + 1, l, h => by
    by_cases h4 : 4 ≤ l.length
    · rw [decL_four l h4, List.length_cons]
      have := decL_len n (l.drop 4) (by rw [List.length_drop]; omega)
      rw [List.length_drop] at this
      omega
    · by_cases h0 : 0 < l.length
      · rw [decL_some l (by omega) h0]; simp; omega
      · rw [decL_none l (by omega)]; simp
theorem decL_four_cells : ∀ (n : Nat) (l : List UInt8), l.length ≤ n → ∀ x ∈ decL l, x.length = 4
  | 0, l, h => by rw [decL_none l (by omega)]; simp
  | n + 1, l, h => by
    by_cases h4 : 4 ≤ l.length
    · rw [decL_four l h4]
      intro x hx
      rcases List.mem_cons.1 hx with rfl | hx
      · rfl
      · exact decL_four_cells n (l.drop 4) (by rw [List.length_drop]; omega) x hx
    · by_cases h0 : 0 < l.length
      · rw [decL_some l (by omega) h0]; simp [zeroV]
      · rw [decL_none l (by omega)]; simp
theorem cells_new (w : World) (cs : Array Value) (t : TypeId) : ∀ j u, cs.toList[j]? = some u → (w.alloc (.cells cs t)).cell? ((⟨w.heap.size, 0, none⟩ : Addr).add j) = some u := by
  intro j u h
  rw [Addr.add_lit, Nat.zero_add, cell_of_row _ _ _ _ _ _ (MapKept.heap_alloc w (.cells cs t)).1]
  simpa using h
theorem info25 : (Tryd.prog.info? 25).map (fun i => (i.zero, i.size, i.bytes)) = some (some (.agg #[.int .u8 0, .string ⟨#[]⟩, .int .i64 0, .int .i64 0]), 4, 40) := by kernel_rfl
theorem ext_list (r : ByteArray) : (r.extract 4 r.size).data.toList = r.data.toList.drop 4 := by
  simp [ByteArray.data_extract]
  rw [List.take_of_length_le (by simp)]
theorem ext_size (r : ByteArray) : (r.extract 4 r.size).size = r.size - 4 := by
  simp [ByteArray.size_extract]
theorem below_grown {w W w' : World} {row : Option Nat} (h : Below w.heap.size w W) (k : W.grownBy w' row) (hr : ∀ b, row = some b → w.heap.size ≤ b) : Below w.heap.size w w' :=
  ⟨k.os.trans h.os, k.tape.trans h.tape, k.output.trans h.output, Nat.le_trans h.size k.size, fun i hi => (k.block i (Nat.lt_of_lt_of_le hi h.size) (fun e => by have := hr i e.symm; omega)).trans (h.block i hi)⟩
theorem len_list (r : ByteArray) : r.data.toList.length = r.size := rfl
def sizeS : Value → Nat
  | .string s => s.size
  | _ => 0

set_option maxHeartbeats 1000000 in
theorem decode_any (s : ByteArray) (hs : s.size ≤ 1000000000000) (w : World) (hT : Tab w) :
    Calls Tryd.prog 6 #[.string s] w fun e w' => ∃ v, e = .returned v ∧ w'.ownsRow w.heap.size 25 4 v (decL s.data.toList).length (decL s.data.toList).flatten ∧ Below w.heap.size w w' := by
  obtain ⟨i0, hi, z0, z1, z2⟩ := info_parts info25
  have HT : Hid (Tab w) := hT
  have HL : Hid ((decL s.data.toList).length ≤ 1000000000000) := Nat.le_trans (decL_len _ _ (Nat.le_refl _)) (by simpa using hs)
  clear hT
  go_enter Tryd.func6, Tryd.ntmps6
  go_wp2
  go_loopw [0, 3] (fun vs v wr => ∃ (r : ByteArray) (dn : List (List Value)), vs = .string r ∧ r.size ≤ 1000000000000 ∧ Hid (decL s.data.toList = dn ++ decL r.data.toList) ∧ wr.ownsRow w.heap.size 25 4 v dn.length dn.flatten ∧ Hid (Below w.heap.size w wr)) (fun vs _ _ => sizeS vs)
  case atStart => exact ⟨s, [], rfl, hs, rfl, ⟨rfl, Or.inl ⟨rfl, rfl⟩⟩, Below.refl _ _⟩
  case round =>
    obtain ⟨r, dn, rfl, hr, HD, hrow, HB⟩ := hrel
    by_cases h4 : 4 ≤ r.size
    · have hg : (r.size : Int) ≥ 4 := by omega
      have hc := one_any r h4 hr wr (HT.out.below HB.out)
      obtain ⟨ad, cap, ev⟩ := own_form hrow
      subst ev
      have HR : Hid (wr.ownsRow w.heap.size 25 4 (.slice ad dn.length cap) dn.length dn.flatten) := hrow
      have hdl : dn.length ≤ 1000000000000 := by
        have h1 := HL.out
        rw [HD.out, List.length_append] at h1
        omega
      clear hrow
      go_wp2_with fail
      refine hc.mono ?_
      rintro e w1 ⟨rfl, hb1⟩
      have HB1 : Hid (Below w.heap.size w w1) := HB.out.trans (hb1.mono HB.out.size)
      have hown := (own_keep HR.out (fun k e => hb1.block k (own_lt HR.out e))).alloc (.cells #[.int .u8 r[0].toNat, .string (nameV r[0].toNat r[1].toNat), .int .i64 (sgn r[2].toNat), .int .i64 r[3].toNat] 25)
      have hcn := cells_new w1 #[.int .u8 r[0].toNat, .string (nameV r[0].toNat r[1].toNat), .int .i64 (sgn r[2].toNat), .int .i64 r[3].toNat] 25
      have hone : ∀ u ∈ [Value.int .u8 r[0].toNat, .string (nameV r[0].toNat r[1].toNat), .int .i64 (sgn r[2].toNat), .int .i64 r[3].toNat], u.oneCell' = true := by
        intro u hu
        simp only [List.mem_cons, List.not_mem_nil, or_false] at hu
        rcases hu with rfl | rfl | rfl | rfl <;> rfl
      have h63 : dn.length + 1 ≤ maxLen := by unfold maxLen; omega
      have hby : (dn.length + 1) * 40 ≤ 140737488355328 := by omega
      have hbase : w.heap.size ≤ (w1.alloc (.cells #[.int .u8 r[0].toNat, .string (nameV r[0].toNat r[1].toNat), .int .i64 (sgn r[2].toNat), .int .i64 r[3].toNat] 25)).heap.size := by have := HB1.out.size; simp; omega
      clear hc hb1
      go_wp2_with (first
        | (at_builtin; refine wpList_append_keeps _ rfl _ _ 22 rfl w.heap.size 25 i0 (.agg #[.int .u8 0, .string ⟨#[]⟩, .int .i64 0, .int .i64 0]) 4 40 Tryd.underlying22 hi z0 z1 z2 rfl (by decide) _ _ _ rfl hown ⟨w1.heap.size, 0, none⟩ 1 1 [.int .u8 r[0].toNat, .string (nameV r[0].toNat r[1].toNat), .int .i64 (sgn r[2].toNat), .int .i64 r[3].toNat] rfl rfl hcn hone h63 hby hbase ?_; intro v' w3 hown' hg3 hat3 _; go_frame)
        | go_in)
      go_roundw
      case rel =>
        refine ⟨r.extract 4 r.size, dn ++ [opV r[0] r[1] r[2] r[3]], rfl, by rw [ext_size]; omega, ?_, ?_, ?_⟩
        · show _ = _
          rw [HD.out, decL_four r.data.toList (by simpa using h4), ext_list, List.append_assoc]
          rfl
        · rw [List.length_append, List.flatten_append]
          exact hown'
        · exact below_grown (HB1.out.alloc HB1.out.size _) hg3 (fun b e => (hown.lt b e).1)
      case measure => show (r.extract 4 r.size).size < r.size; rw [ext_size]; omega
    · have hg : ¬ ((r.size : Int) ≥ 4) := by omega
      obtain ⟨ad, cap, ev⟩ := own_form hrow
      subst ev
      have HR : Hid (wr.ownsRow w.heap.size 25 4 (.slice ad dn.length cap) dn.length dn.flatten) := hrow
      clear hrow
      by_cases h0 : 0 < r.size
      · have hg0 : (r.size : Int) > 0 := by omega
        have hdl : dn.length ≤ 1000000000000 := by
          have h1 := HL.out
          rw [HD.out, List.length_append] at h1
          omega
        have hown := HR.out.alloc (.cells #[.int .u8 0, .string ⟨#[]⟩, .int .i64 0, .int .i64 0] 25)
        have hcn := cells_new wr #[.int .u8 0, .string ⟨#[]⟩, .int .i64 0, .int .i64 0] 25
        have hone : ∀ u ∈ [Value.int .u8 0, .string ⟨#[]⟩, .int .i64 0, .int .i64 0], u.oneCell' = true := by
          intro u hu
          simp only [List.mem_cons, List.not_mem_nil, or_false] at hu
          rcases hu with rfl | rfl | rfl | rfl <;> rfl
        have h63 : dn.length + 1 ≤ maxLen := by unfold maxLen; omega
        have hby : (dn.length + 1) * 40 ≤ 140737488355328 := by omega
        have hbase : w.heap.size ≤ (wr.alloc (.cells #[.int .u8 0, .string ⟨#[]⟩, .int .i64 0, .int .i64 0] 25)).heap.size := by have := HB.out.size; simp; omega
        have HF : Hid (decL s.data.toList = dn ++ [zeroV]) := by show _ = _; rw [HD.out, decL_some r.data.toList (by rw [len_list]; omega) (by simpa using h0)]
        go_wp2_with (first
          | (at_builtin; refine wpList_append_keeps _ rfl _ _ 22 rfl w.heap.size 25 i0 (.agg #[.int .u8 0, .string ⟨#[]⟩, .int .i64 0, .int .i64 0]) 4 40 Tryd.underlying22 hi z0 z1 z2 rfl (by decide) _ _ _ rfl hown ⟨wr.heap.size, 0, none⟩ 1 1 [.int .u8 0, .string ⟨#[]⟩, .int .i64 0, .int .i64 0] rfl rfl hcn hone h63 hby hbase ?_; intro v' w3 hown' hg3 hat3 _; go_frame)
          | go_in)
        go_ret
        refine ⟨_, rfl, ?_, below_grown (HB.out.alloc HB.out.size _) hg3 (fun b e => (hown.lt b e).1)⟩
        rw [HF.out, List.length_append, List.flatten_append]
        exact hown'
      · have hg0 : ¬ ((r.size : Int) > 0) := by omega
        have HF : Hid (decL s.data.toList = dn) := by show _ = _; rw [HD.out, decL_none r.data.toList (by rw [len_list]; omega), List.append_nil]
        go_wp2
        go_ret
        refine ⟨_, rfl, ?_, HB.out⟩
        rw [HF.out]
        exact HR.out

end Go.Proofs.YtdgfjneapialdaaDoor
