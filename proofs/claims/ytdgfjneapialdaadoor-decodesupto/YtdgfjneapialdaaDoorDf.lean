import Derived.Test.YtdgfjneapialdaaDoorDd
import Derived.Test.YtdgfjneapialdaaDoorDe
namespace Go.Proofs.YtdgfjneapialdaaDoor
open Go Go.RowKit Go.Maps Go.Lib Go.Sort

theorem decL_bd (s : ByteArray) (hs : s.size ≤ 1000000000000) : (decL s.data.toList).length ≤ 1000000000000 := Nat.le_trans (decL_len _ _ (Nat.le_refl _)) (by rw [len_list]; exact hs)

set_option maxHeartbeats 400000 in
theorem decoded_any (s : ByteArray) (hs : s.size ≤ 1000000000000) (w : World) (hT : Tab w) :
    Calls Tryd.prog 7 #[.string s] w fun e w' => e = .returned (.bool true) ∧ Below w.heap.size w w' := by
  have hc1 := decode_any s hs w hT
  have hc2 := fun w' (hb : Below w.heap.size w w') => rdecode_any s hs w' (hT.below hb)
  have HL := (show Hid _ from decL_bd s hs)
  clear hT hs
  go_enter Tryd.func7, Tryd.ntmps7
  go_wp2_with fail
  refine hc1.mono ?_
  rintro e w1 ⟨v1, rfl, r1, hb1⟩
  have hc2' := hc2 w1 hb1
  obtain ⟨ad1, cap1, rfl⟩ := own_form r1
  have HR1 := (show Hid _ from r1)
  have HB1 : Hid (Below w.heap.size w w1) := hb1
  clear hc1 hc2 r1 hb1
  go_wp2_with fail
  refine hc2'.mono ?_
  rintro e w2 ⟨v2, rfl, r2, hb2⟩
  obtain ⟨ad2, cap2, rfl⟩ := own_form r2
  have hc3 := sameOps_any (own_keep HR1.out (fun k e => hb2.block k (own_lt HR1.out e))) r2 (decL_shape _ _ (Nat.le_refl _)) (by have := HL.out; omega)
  have HB2 : Hid (Below w.heap.size w w2) := HB1.out.trans (hb2.mono HB1.out.size)
  clear hc2' r2 hb2 HR1
  go_wp2_with fail
  refine hc3.mono ?_
  rintro e w3 ⟨rfl, n, rfl⟩
  clear hc3
  go_wp2
  go_ret
  exact ⟨rfl, HB2.out.os, HB2.out.tape, HB2.out.output, HB2.out.size, HB2.out.block⟩

def markV : List Value := [.int .u8 200, .string ⟨#[]⟩, .int .i64 9000, .int .i64 0]
def repV (n : Nat) : List Value := (List.replicate n markV).flatten
theorem repV_succ (n : Nat) : repV (n + 1) = repV n ++ markV := by
  unfold repV
  rw [List.replicate_succ', List.flatten_append]
  simp
theorem repV_len (n : Nat) : (repV n).length = n * 4 := by
  induction n with
  | zero => rfl
  | succ n ih => rw [repV_succ, List.length_append, ih]; show n * 4 + 4 = _; omega
theorem rep_set4 (xs : List Value) (k : Nat) (hk : k * 4 + 3 < xs.length) : ((((repV k ++ xs.drop (k * 4)).set (k * 4) (.int .u8 200)).set (k * 4 + 1) (.string ⟨#[]⟩)).set (k * 4 + 2) (.int .i64 9000)).set (k * 4 + 3) (.int .i64 0) = repV (k + 1) ++ xs.drop ((k + 1) * 4) := by
  have hl := repV_len k
  rw [List.set_append_right _ _ (by omega), List.set_append_right _ _ (by omega), List.set_append_right _ _ (by omega), List.set_append_right _ _ (by omega), hl, Nat.sub_self, show k * 4 + 1 - k * 4 = 1 by omega, show k * 4 + 2 - k * 4 = 2 by omega, show k * 4 + 3 - k * 4 = 3 by omega,
    List.drop_eq_getElem_cons (by omega), List.drop_eq_getElem_cons (by omega), List.drop_eq_getElem_cons (by omega), List.drop_eq_getElem_cons (by omega), repV_succ, List.append_assoc, show (k + 1) * 4 = k * 4 + 1 + 1 + 1 + 1 by omega]
  rfl
theorem rep_at (xs : List Value) (k o : Nat) (ho : o < 4) (hk : k * 4 + 3 < xs.length) : (repV k ++ xs.drop (k * 4))[k * 4 + o]? = some (xs[k * 4 + o]'(by omega)) := by
  have hl := repV_len k
  rw [List.getElem?_append_right (by omega), hl, List.getElem?_drop, show k * 4 + (k * 4 + o - k * 4) = k * 4 + o by omega, List.getElem?_eq_getElem (by omega)]
theorem repV_get (n : Nat) : ∀ i, i < n → ∀ o, o < 4 → (repV n)[i * 4 + o]? = markV[o]? := by
  intro i hi o ho
  have h4 : ∀ x ∈ List.replicate n markV, x.length = 4 := fun x hx => by rw [List.eq_of_mem_replicate hx]; rfl
  have := flat_get h4 i (by rw [List.length_replicate]; exact hi) o ho
  rw [List.getElem_replicate] at this
  exact this
theorem nameW : nameV 1 22 = ⟨#[119]⟩ := by
  unfold nameV
  rw [if_neg (by decide)]
  exact letterf ⟨22, by omega⟩
theorem dec_w : decL (⟨#[1, 22, 3, 0]⟩ : ByteArray).data.toList = [[.int .u8 1, .string ⟨#[119]⟩, .int .i64 3, .int .i64 0]] := by
  show [[Value.int .u8 1, .string (nameV 1 22), .int .i64 (sgn 3), .int .i64 0]] = _
  rw [nameW]
  rfl
theorem info22 : (Tryd.prog.info? 22).map (fun i => (i.zero, i.size, i.bytes)) = some (some (.slice none 0 0), 1, 24) := by kernel_rfl
theorem drewB {w W : World} (h : Below w.heap.size w W) (n : Nat) : Below w.heap.size w (W.drewN n) := ⟨h.os, h.tape, h.output, h.size, h.block⟩

end Go.Proofs.YtdgfjneapialdaaDoor
