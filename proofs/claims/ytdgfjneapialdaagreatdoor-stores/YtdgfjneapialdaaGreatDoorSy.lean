import Derived.Test.YtdgfjneapialdaaGreatDoorSx
namespace Go.Proofs.YtdgfjneapialdaaGreatDoor.S
open Go Go.RowKit Go.Maps

def evOb (so : Int) (o : Ob) : List Value := evCells so o.kind o.name o.uid o.version o.replicas o.status o.owner o.phase o.gone

/-- What one call may do to a store: nothing, or one write. -/
structure Wr (ver cre : Int) (log : List Value) (n : Nat) (D : DataW Unit) (ver' cre' : Int) (log' : List Value) (n' : Nat) (D' : DataW Unit) (Pd : Int → ByteArray → Prop) : Prop where
  inv : Inv ver' cre' n' D'
  step : (ver' = ver ∧ log' = log ∧ D' = D) ∨ (ver < 600 ∧ ver' = ver + 1 ∧ ∃ so o, 0 ≤ so ∧ so ≤ 2 ∧ o.version = ver + 1 ∧ (o.kind = 0 ∨ o.kind = 1) ∧ o.name.size ≤ maxLen ∧ log' = logPut log (((ver + 1) % 16).toNat * 10) (evOb so o) ∧
    ((so ≠ 2 ∧ D' = D.put (klit o.kind o.name) o.dat) ∨ (so = 2 ∧ D' = D.del (klit o.kind o.name) ∧ Pd o.kind o.name)))

section
variable {ver cre : Int} {log : List Value} {n : Nat} {D : DataW Unit} {Pd : Int → ByteArray → Prop}
theorem Wr.none (h : Inv ver cre n D) : Wr ver cre log n D ver cre log n D Pd := ⟨h, Or.inl ⟨rfl, rfl, rfl⟩⟩
theorem Wr.ver_le {ver' cre' : Int} {log' : List Value} {n' : Nat} {D' : DataW Unit} (h : Wr ver cre log n D ver' cre' log' n' D' Pd) : ver ≤ ver' ∧ ver' ≤ ver + 1 := by
  rcases h.step with ⟨rfl, _⟩ | ⟨_, rfl, _⟩ <;> omega
end

theorem refused_w {w : World} (sb mb : Nat) (lim ver cre : Int) (log : List Value) (n : Nat) (D : DataW Unit) (hI : Inv ver cre n D) (h : IsStore w sb mb lim ver cre log n D) (Pd : Int → ByteArray → Prop) {f : Nat} {args : Array Value} {v : Value} (hc : Calls Tryz.prog f args w fun e w' => e = .returned v ∧ Below w.heap.size w w') :
    Calls Tryz.prog f args w fun e w' => (∃ x, e = .returned x) ∧ (∃ ver' cre' log' n' D', IsStore w' sb mb lim ver' cre' log' n' D' ∧ Wr ver cre log n D ver' cre' log' n' D' Pd) ∧ Kept sb mb w w' := by
  refine hc.mono ?_
  rintro e w' ⟨rfl, hb⟩
  exact ⟨⟨_, rfl⟩, ⟨_, _, _, _, _, h.below hb, Wr.none hI⟩, belowKept hb⟩

theorem create_w (k : Int) (s : ByteArray) (u v r t ow ph : Int) (g : Bool) (w : World) (sb mb : Nat) (lim ver cre : Int) (log : List Value) (n : Nat) (D : DataW Unit) (hI : Inv ver cre n D) (hT : Tab w) (hs1 : 1 < sb) (hm1 : 1 < mb) (h : IsStore w sb mb lim ver cre log n D) (h0 : 0 ≤ k) (h1 : k ≤ 255) (hs : s.size ≤ maxLen) (Pd : Int → ByteArray → Prop) :
    Calls Tryz.prog 50 #[.pointer (some ⟨sb, 0, none⟩), .agg #[.int .u8 k, .string s, .int .i64 u, .int .i64 v, .int .i64 r, .int .i64 t, .int .i64 ow, .int .u8 ph, .bool g]] w fun e w' => (∃ x, e = .returned x) ∧ (∃ ver' cre' log' n' D', IsStore w' sb mb lim ver' cre' log' n' D' ∧ Wr ver cre log n D ver' cre' log' n' D' Pd) ∧ Kept sb mb w w' := by
  have hv0 := hI.v0
  have hv1 := hI.v1
  have hc0 := hI.c0
  have hc1 := hI.c1
  have hnn := hI.nn
  cases hr : rightCrB k s r t ow ph
  · exact refused_w sb mb lim ver cre log n D hI h Pd (create_refused k s u v r t ow ph g w sb mb lim ver cre log n D 1 rfl h (fun W hW => may_invalid k s u v r t ow ph g W sb hs hr))
  by_cases hv : ver = 600
  · exact refused_w sb mb lim ver cre log n D hI h Pd (create_refused k s u v r t ow ph g w sb mb lim ver cre log n D 6 rfl h (fun W hW => may_old k s u v r t ow ph g W sb mb lim ver cre log n D hW hv hs hr))
  rcases h.look k s h0 h1 hs with ⟨o, ha⟩ | ha
  · exact refused_w sb mb lim ver cre log n D hI h Pd (create_refused k s u v r t ow ph g w sb mb lim ver cre log n D 2 rfl h (fun W hW => may_exists k s u v r t ow ph g W sb mb lim ver cre log n D o hW hv h0 h1 hs hr ha))
  cases hf : ((Maps.size D : Int) == lim)
  · have hc5 : ∀ W, IsStore W sb mb lim ver cre log n D → Calls Tryz.prog 112 #[.pointer (some ⟨sb, 0, none⟩), .agg #[.int .u8 k, .string s, .int .i64 u, .int .i64 v, .int .i64 r, .int .i64 t, .int .i64 ow, .int .u8 ph, .bool g]] W fun e w' => e = .returned (.int .i64 0) ∧ Below W.heap.size W w' := fun W hW => may_full k s u v r t ow ph g W sb mb lim ver cre log n D hW hv h0 h1 hs hr ha false hf
    have hml : (1000 : Nat) < maxLen := by unfold maxLen; omega
    unfold rightCrB at hr
    by_cases hk0 : k = 0
    · subst hk0
      rw [if_pos rfl] at hr
      simp only [Bool.and_eq_true, beq_iff_eq] at hr
      obtain ⟨⟨⟨hnb, hcb⟩, how⟩, hph⟩ := hr
      have hns := nameB_size hnb
      refine (create_ok 0 s u v r t ow ph g w sb mb lim ver cre log n D s h hv0 (by omega) hc0 (by omega) h0 h1 hs (by omega) hs1 hm1 hc5 (fun W _ _ => ownName_set s (cre + 1) v r t ow ph false W (by omega))).mono ?_
      rintro e w' ⟨rfl, hS, hK⟩
      refine ⟨⟨_, rfl⟩, ⟨_, _, _, _, _, hS, ⟨?_, Or.inr ⟨by omega, rfl, 0, ⟨0, s, cre + 1, ver + 1, r, t, ow, ph, false⟩, by omega, by omega, rfl, Or.inl rfl, hs, rfl, Or.inl ⟨by omega, rfl⟩⟩⟩⟩, hK⟩
      exact hI.put (by omega) (by omega) (by omega) h0 h1 hs ⟨rfl, rfl, Or.inl rfl, by simp; omega, by simp, by simp; omega, by simp, fun _ => ⟨hcb, hnb, how, hph, rfl⟩, fun e => (by cases e)⟩
    · rw [if_neg hk0] at hr
      by_cases hk1 : k = 1
      · subst hk1
        rw [if_pos rfl] at hr
        simp only [Bool.and_eq_true, beq_iff_eq, decide_eq_true_eq] at hr
        obtain ⟨⟨⟨⟨_, how⟩, hph⟩, hr0⟩, ht0⟩ := hr
        have hps := podName_size (cre + 1) (by omega) (by omega)
        have hpm : (podName (cre + 1)).size ≤ maxLen := by unfold maxLen; omega
        refine (create_ok 1 s u v r t ow ph g w sb mb lim ver cre log n D (podName (cre + 1)) h hv0 (by omega) hc0 (by omega) h0 h1 hpm (by omega) hs1 hm1 hc5 (fun W hW1 hWs => ownName_pod s (cre + 1) v r t ow ph false W (hT.keep hW1) hWs (by omega) (by omega))).mono ?_
        rintro e w' ⟨rfl, hS, hK⟩
        refine ⟨⟨_, rfl⟩, ⟨_, _, _, _, _, hS, ⟨?_, Or.inr ⟨by omega, rfl, 0, ⟨1, podName (cre + 1), cre + 1, ver + 1, r, t, ow, ph, false⟩, by omega, by omega, rfl, Or.inr rfl, hpm, rfl, Or.inl ⟨by omega, rfl⟩⟩⟩⟩, hK⟩
        exact hI.put (by omega) (by omega) (by omega) h0 h1 hpm ⟨rfl, rfl, Or.inr rfl, by simp; omega, by simp, by simp; omega, by simp, fun e => (by cases e), fun _ => ⟨rfl, how, hph, hr0, ht0⟩⟩
      · rw [if_neg hk1] at hr
        cases hr
  · exact refused_w sb mb lim ver cre log n D hI h Pd (create_refused k s u v r t ow ph g w sb mb lim ver cre log n D 5 rfl h (fun W hW => may_full k s u v r t ow ph g W sb mb lim ver cre log n D hW hv h0 h1 hs hr ha true hf))

theorem remove_w (k : Int) (s : ByteArray) (ve : Int) (w : World) (sb mb : Nat) (lim ver cre : Int) (log : List Value) (n : Nat) (D : DataW Unit) (hI : Inv ver cre n D) (h : IsStore w sb mb lim ver cre log n D) (h0 : 0 ≤ k) (h1 : k ≤ 255) (hs : s.size ≤ maxLen) (Pd : Int → ByteArray → Prop) (hP : Pd k s) :
    Calls Tryz.prog 61 #[.pointer (some ⟨sb, 0, none⟩), .int .u8 k, .string s, .int .i64 ve] w fun e w' => (∃ x, e = .returned x) ∧ (∃ ver' cre' log' n' D', IsStore w' sb mb lim ver' cre' log' n' D' ∧ Wr ver cre log n D ver' cre' log' n' D' Pd) ∧ Kept sb mb w w' := by
  have hv0 := hI.v0
  have hv1 := hI.v1
  by_cases hv : ver = 600
  · exact refused_w sb mb lim ver cre log n D hI h Pd (remove_refused w sb k s ve 6 rfl (fun o => forWriting_old _ sb mb lim ver cre log n D k s (h.alloc o) hv))
  rcases h.look k s h0 h1 hs with ⟨o, ha⟩ | ha
  · have hob := hI.all k s o h0 h1 hs ha
    obtain ⟨a0, a1, a2, a3, a4, a5, a6, a7, a8⟩ := o
    cases hve : isOtherB ve a3
    · refine (remove_ok w sb mb lim ver cre log n D k s ve a0 a1 a2 a3 a4 a5 a6 a7 a8 h hv0 (by omega) h0 h1 hs ha hve).mono ?_
      rintro e w' ⟨rfl, hS, hK⟩
      obtain rfl : a0 = k := hob.kind
      obtain rfl : a1 = s := hob.name
      exact ⟨⟨_, rfl⟩, ⟨_, _, _, _, _, hS, ⟨hI.del (by omega) h0 h1 hs, Or.inr ⟨by omega, rfl, 2, ⟨a0, a1, a2, ver + 1, a4, a5, a6, a7, a8⟩, by omega, by omega, rfl, hob.kk, hs, rfl, Or.inr ⟨rfl, rfl, hP⟩⟩⟩⟩, hK⟩
    · exact refused_w sb mb lim ver cre log n D hI h Pd (remove_conflict w sb mb lim ver cre log n D k s ve a0 a1 a2 a3 a4 a5 a6 a7 a8 h hv h0 h1 hs ha hve)
  · exact refused_w sb mb lim ver cre log n D hI h Pd (remove_refused w sb k s ve 3 rfl (fun o => forWriting_miss _ sb mb lim ver cre log n D k s (h.alloc o) hv h0 h1 hs ha))

/-- A turn, whether it changes something or not. -/
theorem turn_w (sb mb : Nat) (lim ver cre : Int) (log : List Value) (n : Nat) (D : DataW Unit) (a0 : Int) (a1 : ByteArray) (a2 a3 a4 a5 a6 a7 : Int) (a8 : Bool) (i4 i5 i7 : Int) (i8 : Bool) (hI : Inv ver cre n D) (hv : ver < 600) (h0 : 0 ≤ a0) (h1 : a0 ≤ 255) (hs : a1.size ≤ maxLen) (hob : ObOk ver cre a0 a1 ⟨a0, a1, a2, a3, a4, a5, a6, a7, a8⟩) (hob' : ObOk (ver + 1) cre a0 a1 ⟨a0, a1, a2, ver + 1, i4, i5, a6, i7, i8⟩) (Pd : Int → ByteArray → Prop) :
    ∃ (q : Ob) (ver' : Int) (log' : List Value) (n' : Nat) (D' : DataW Unit), Wr ver cre log n D ver' cre log' n' D' Pd ∧ ∀ W, IsStore W sb mb lim ver cre log n D → Calls Tryz.prog 123 #[.pointer (some ⟨sb, 0, none⟩), .agg #[.int .u8 a0, .string a1, .int .i64 a2, .int .i64 a3, .int .i64 a4, .int .i64 a5, .int .i64 a6, .int .u8 a7, .bool a8], .agg #[.int .u8 a0, .string a1, .int .i64 a2, .int .i64 a3, .int .i64 i4, .int .i64 i5, .int .i64 a6, .int .u8 i7, .bool i8]] W fun e w' => e = .returned (.agg #[.int .u8 q.kind, .string q.name, .int .i64 q.uid, .int .i64 q.version, .int .i64 q.replicas, .int .i64 q.status, .int .i64 q.owner, .int .u8 q.phase, .bool q.gone]) ∧ IsStore w' sb mb lim ver' cre log' n' D' ∧ Kept sb mb W w' := by
  have hv0 := hI.v0
  have hnn := hI.nn
  have hc1 := hI.c1
  have hml : (1000 : Nat) < maxLen := by unfold maxLen; omega
  cases he : eqB a0 a1 a2 a3 i4 i5 a6 i7 i8 a0 a1 a2 a3 a4 a5 a6 a7 a8
  · refine ⟨⟨a0, a1, a2, ver + 1, i4, i5, a6, i7, i8⟩, _, _, _, _, ⟨hI.put (by omega) (Int.le_refl _) (by omega) h0 h1 hs hob', Or.inr ⟨hv, rfl, 1, ⟨a0, a1, a2, ver + 1, i4, i5, a6, i7, i8⟩, by omega, by omega, rfl, hob.kk, hs, rfl, Or.inl ⟨by omega, rfl⟩⟩⟩, fun W hW => ?_⟩
    exact turn_other a0 a1 a2 a3 a4 a5 a6 a7 a8 a0 a1 a2 a3 i4 i5 a6 i7 i8 W sb mb lim ver cre log n D hW he hv0 hv h0 h1 hs (by omega)
  · obtain ⟨_, _, _, _, rfl, rfl, _, rfl, rfl⟩ := eqB_true he
    refine ⟨⟨a0, a1, a2, a3, i4, i5, a6, i7, i8⟩, ver, log, n, D, Wr.none hI, fun W hW => ?_⟩
    refine (turn_same a0 a1 a2 a3 i4 i5 a6 i7 i8 W sb).mono ?_
    rintro e w' ⟨rfl, hb⟩
    exact ⟨rfl, hW.below hb, belowKept hb⟩

theorem mark_w (s : ByteArray) (w : World) (sb mb : Nat) (lim ver cre : Int) (log : List Value) (n : Nat) (D : DataW Unit) (hI : Inv ver cre n D) (h : IsStore w sb mb lim ver cre log n D) (hs : s.size ≤ maxLen) (Pd : Int → ByteArray → Prop) :
    Calls Tryz.prog 59 #[.pointer (some ⟨sb, 0, none⟩), .string s] w fun e w' => (∃ x, e = .returned x) ∧ (∃ ver' cre' log' n' D', IsStore w' sb mb lim ver' cre' log' n' D' ∧ Wr ver cre log n D ver' cre' log' n' D' Pd) ∧ Kept sb mb w w' := by
  have hv0 := hI.v0
  have hv1 := hI.v1
  by_cases hv : ver = 600
  · exact refused_w sb mb lim ver cre log n D hI h Pd (mark_refused w sb s 6 rfl (fun o => forWriting_old _ sb mb lim ver cre log n D 1 s (h.alloc o) hv))
  rcases h.look 1 s (by omega) (by omega) hs with ⟨o, ha⟩ | ha
  · have hob := hI.all 1 s o (by omega) (by omega) hs ha
    obtain ⟨a0, a1, a2, a3, a4, a5, a6, a7, a8⟩ := o
    obtain rfl : a0 = 1 := hob.kind
    obtain rfl : a1 = s := hob.name
    have hu1 := hob.u1
    have hu2 := hob.u2
    obtain ⟨q, ver', log', n', D', hW, ht⟩ := turn_w sb mb lim ver cre log n D 1 a1 a2 a3 a4 a5 a6 a7 a8 a4 a5 a7 true hI (by omega) (by omega) (by omega) hs hob ⟨rfl, rfl, Or.inr rfl, by simp; omega, by simp, hu1, hu2, fun e => (by cases e), hob.pod⟩ Pd
    refine (mark_ok w sb mb lim ver cre log n D a1 1 a1 a2 a3 a4 a5 a6 a7 a8 q.kind q.name q.uid q.version q.replicas q.status q.owner q.phase q.gone ver' log' n' D' h hv hs ha ht).mono ?_
    rintro e w' ⟨rfl, hS, hK⟩
    exact ⟨⟨_, rfl⟩, ⟨_, _, _, _, _, hS, hW⟩, hK⟩
  · exact refused_w sb mb lim ver cre log n D hI h Pd (mark_refused w sb s 3 rfl (fun o => forWriting_miss _ sb mb lim ver cre log n D 1 s (h.alloc o) hv (by omega) (by omega) hs ha))

theorem update_w (k : Int) (s : ByteArray) (u v r t ow ph : Int) (g : Bool) (w : World) (sb mb : Nat) (lim ver cre : Int) (log : List Value) (n : Nat) (D : DataW Unit) (hI : Inv ver cre n D) (h : IsStore w sb mb lim ver cre log n D) (h0 : 0 ≤ k) (h1 : k ≤ 255) (hs : s.size ≤ maxLen) (Pd : Int → ByteArray → Prop) :
    Calls Tryz.prog 57 #[.pointer (some ⟨sb, 0, none⟩), .agg #[.int .u8 k, .string s, .int .i64 u, .int .i64 v, .int .i64 r, .int .i64 t, .int .i64 ow, .int .u8 ph, .bool g]] w fun e w' => (∃ x, e = .returned x) ∧ (∃ ver' cre' log' n' D', IsStore w' sb mb lim ver' cre' log' n' D' ∧ Wr ver cre log n D ver' cre' log' n' D' Pd) ∧ Kept sb mb w w' := by
  have hv0 := hI.v0
  have hv1 := hI.v1
  cases hr : rightUpB k r t ph
  · exact refused_w sb mb lim ver cre log n D hI h Pd (update_invalid k s u v r t ow ph g w sb hr)
  by_cases hv : ver = 600
  · exact refused_w sb mb lim ver cre log n D hI h Pd (update_refused k s u v r t ow ph g w sb mb lim ver cre log n D 6 rfl hr h (fun W hW => forWriting_old W sb mb lim ver cre log n D k s hW hv))
  rcases h.look k s h0 h1 hs with ⟨o, ha⟩ | ha
  · have hob := hI.all k s o h0 h1 hs ha
    obtain ⟨a0, a1, a2, a3, a4, a5, a6, a7, a8⟩ := o
    cases hx : isOtherB u a2
    · cases hy : isOtherB v a3
      · have hu1 := hob.u1
        have hu2 := hob.u2
        obtain rfl : a0 = k := hob.kind
        obtain rfl : a1 = s := hob.name
        rcases hob.kk with rfl | rfl
        · have hcb : countsB r t = true := by unfold rightUpB at hr; rwa [if_pos rfl] at hr
          obtain ⟨_, hnb, how, hph, hgo⟩ := hob.set rfl
          obtain ⟨q, ver', log', n', D', hW, ht⟩ := turn_w sb mb lim ver cre log n D 0 a1 a2 a3 a4 a5 a6 a7 a8 r t a7 a8 hI (by omega) (by omega) (by omega) hs hob ⟨rfl, rfl, Or.inl rfl, by simp; omega, by simp, hu1, hu2, fun _ => ⟨hcb, hnb, how, hph, hgo⟩, fun e => (by cases e)⟩ Pd
          refine (update_set a1 u v r t ow ph g w sb mb lim ver cre log n D 0 a1 a2 a3 a4 a5 a6 a7 a8 q.kind q.name q.uid q.version q.replicas q.status q.owner q.phase q.gone ver' log' n' D' hr h hv hs ha hx hy ht).mono ?_
          rintro e w' ⟨rfl, hS, hK⟩
          exact ⟨⟨_, rfl⟩, ⟨_, _, _, _, _, hS, hW⟩, hK⟩
        · have hpb : ph ≤ 2 := by unfold rightUpB at hr; simpa using hr
          obtain ⟨hpn, how, _, hr0, ht0⟩ := hob.pod rfl
          obtain ⟨q, ver', log', n', D', hW, ht⟩ := turn_w sb mb lim ver cre log n D 1 a1 a2 a3 a4 a5 a6 a7 a8 a4 a5 ph a8 hI (by omega) (by omega) (by omega) hs hob ⟨rfl, rfl, Or.inr rfl, by simp; omega, by simp, hu1, hu2, fun e => (by cases e), fun _ => ⟨hpn, how, hpb, hr0, ht0⟩⟩ Pd
          refine (update_pod a1 u v r t ow ph g w sb mb lim ver cre log n D 1 a1 a2 a3 a4 a5 a6 a7 a8 q.kind q.name q.uid q.version q.replicas q.status q.owner q.phase q.gone ver' log' n' D' hr h hv hs ha hx hy ht).mono ?_
          rintro e w' ⟨rfl, hS, hK⟩
          exact ⟨⟨_, rfl⟩, ⟨_, _, _, _, _, hS, hW⟩, hK⟩
      · exact refused_w sb mb lim ver cre log n D hI h Pd (update_conflict k s u v r t ow ph g w sb mb lim ver cre log n D a0 a1 a2 a3 a4 a5 a6 a7 a8 hr h hv h0 h1 hs ha (by simp [hy]))
    · exact refused_w sb mb lim ver cre log n D hI h Pd (update_conflict k s u v r t ow ph g w sb mb lim ver cre log n D a0 a1 a2 a3 a4 a5 a6 a7 a8 hr h hv h0 h1 hs ha (by simp [hx]))
  · exact refused_w sb mb lim ver cre log n D hI h Pd (update_refused k s u v r t ow ph g w sb mb lim ver cre log n D 3 rfl hr h (fun W hW => forWriting_miss W sb mb lim ver cre log n D k s hW hv h0 h1 hs ha))

end Go.Proofs.YtdgfjneapialdaaGreatDoor.S
