import Derived.Test.YtdgfjneapialdaaGreatDoorSu
import Derived.Test.YtdgfjneapialdaaGreatDoorSs
import Derived.Test.YtdgfjneapialdaaGreatDoorSq
import Derived.Test.YtdgfjneapialdaaGreatDoorSo
namespace Go.Proofs.YtdgfjneapialdaaGreatDoor.S
open Go Go.RowKit Go.Maps

theorem at_put_same {D : DataW Unit} (hD : IsMap D) (k : Int) (s : ByteArray) (o : Ob) : At (D.put (klit k s) o.dat) k s o :=
  ⟨has_put_same hD (klit_key k s) _, atKey_put_same hD (klit_key k s) _ _⟩
theorem at_put_other {D : DataW Unit} {k k' : Int} {s s' : ByteArray} {d : DataW Unit} {o' : Ob} (hne : klit k' s' ≠ klit k s) : At (D.put (klit k s) d) k' s' o' ↔ At D k' s' o' := by
  unfold At
  rw [has_put_other hne, atKey_put_other hne]
theorem at_del_other {D : DataW Unit} {k k' : Int} {s s' : ByteArray} {o' : Ob} (hne : klit k' s' ≠ klit k s) : At (D.del (klit k s)) k' s' o' ↔ At D k' s' o' := by
  unfold At
  rw [has_del_other hne, atKey_del_other hne]
theorem at_del_same {D : DataW Unit} {k : Int} {s : ByteArray} {o' : Ob} (h : At (D.del (klit k s)) k s o') : False := by
  have := h.1
  rw [has_del_same] at this
  cases this

/-- What an object of the store is. -/
structure ObOk (ver cre : Int) (k : Int) (s : ByteArray) (o : Ob) : Prop where
  kind : o.kind = k
  name : o.name = s
  kk : k = 0 ∨ k = 1
  v1 : 1 ≤ o.version
  v2 : o.version ≤ ver
  u1 : 1 ≤ o.uid
  u2 : o.uid ≤ cre
  set : k = 0 → countsB o.replicas o.status = true ∧ nameB s = true ∧ o.owner = 0 ∧ o.phase = 0 ∧ o.gone = false
  pod : k = 1 → s = podName o.uid ∧ 1 ≤ o.owner ∧ o.phase ≤ 2 ∧ o.replicas = 0 ∧ o.status = 0

/-- What a store's numbers and objects are. -/
structure Inv (ver cre : Int) (n : Nat) (D : DataW Unit) : Prop where
  v0 : 0 ≤ ver
  v1 : ver ≤ 600
  c0 : 0 ≤ cre
  c1 : cre ≤ ver
  nn : (n : Int) ≤ ver
  im : IsMap D
  all : ∀ k s o, 0 ≤ k → k ≤ 255 → s.size ≤ maxLen → At D k s o → ObOk ver cre k s o

theorem Inv.good {ver cre : Int} {n : Nat} {D : DataW Unit} (h : Inv ver cre n D) : GoodD D := fun k s o h0 h1 hs ha => ⟨(h.all k s o h0 h1 hs ha).kind, (h.all k s o h0 h1 hs ha).name⟩

theorem ObOk.mono {ver cre ver' cre' k : Int} {s : ByteArray} {o : Ob} (h : ObOk ver cre k s o) (hv : ver ≤ ver') (hc : cre ≤ cre') : ObOk ver' cre' k s o :=
  ⟨h.kind, h.name, h.kk, h.v1, Int.le_trans h.v2 hv, h.u1, Int.le_trans h.u2 hc, h.set, h.pod⟩

theorem Inv.put {ver cre cre' : Int} {n : Nat} {D : DataW Unit} (h : Inv ver cre n D) (hv : ver < 600) (hc : cre ≤ cre') (hc' : cre' ≤ ver + 1) {k : Int} {s : ByteArray} {o : Ob} (h0 : 0 ≤ k) (h1 : k ≤ 255) (hs : s.size ≤ maxLen) (ho : ObOk (ver + 1) cre' k s o) :
    Inv (ver + 1) cre' (n + 1) (D.put (klit k s) o.dat) := by
  have hv0 := h.v0
  have hc0 := h.c0
  have hnn := h.nn
  refine ⟨by omega, by omega, by omega, by omega, by omega, h.im.put _ _, fun k' s' o' h0' h1' hs' ha => ?_⟩
  by_cases e : klit k' s' = klit k s
  · obtain ⟨rfl, rfl⟩ := klit_inj h0' h1' hs' h0 h1 hs e
    rw [← at_inj (at_put_same h.im k' s' o) ha]
    exact ho
  · exact (h.all k' s' o' h0' h1' hs' ((at_put_other e).1 ha)).mono (by omega) hc
theorem Inv.del {ver cre : Int} {n : Nat} {D : DataW Unit} (h : Inv ver cre n D) (hv : ver < 600) {k : Int} {s : ByteArray} (h0 : 0 ≤ k) (h1 : k ≤ 255) (hs : s.size ≤ maxLen) :
    Inv (ver + 1) cre n (D.del (klit k s)) := by
  have hv0 := h.v0
  have hc0 := h.c0
  have hc1 := h.c1
  have hnn := h.nn
  refine ⟨by omega, by omega, by omega, by omega, by omega, h.im.del _, fun k' s' o' h0' h1' hs' ha => ?_⟩
  by_cases e : klit k' s' = klit k s
  · obtain ⟨rfl, rfl⟩ := klit_inj h0' h1' hs' h0 h1 hs e
    exact (at_del_same ha).elim
  · exact (h.all k' s' o' h0' h1' hs' ((at_del_other e).1 ha)).mono (by omega) (Int.le_refl _)

theorem podName_size (u : Int) (h0 : 0 ≤ u) (h1 : u ≤ 100000) : (podName u).size ≤ 22 := by
  have hl : (Lib.itoa u).length ≤ 21 := Lib.itoa_length_le u (by omega) (by omega)
  unfold podName
  rw [ByteArray.size_append]
  have e1 : (⟨#[112]⟩ : ByteArray).size = 1 := rfl
  have e2 : (⟨(Lib.itoa u).toArray⟩ : ByteArray).size = (Lib.itoa u).length := by simp [ByteArray.size]
  omega
theorem podName_head (u : Int) : (podName u).data.toList = 112 :: Lib.itoa u := by
  unfold podName
  rw [ByteArray.data_append]
  simp

theorem nameB_size {s : ByteArray} (h : nameB s = true) : s.size ≤ 8 := by
  unfold nameB at h
  simp at h
  omega

end Go.Proofs.YtdgfjneapialdaaGreatDoor.S
