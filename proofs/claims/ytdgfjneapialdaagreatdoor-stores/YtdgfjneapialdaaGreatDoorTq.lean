import Derived.Test.YtdgfjneapialdaaGreatDoorTp
namespace Go.Proofs.YtdgfjneapialdaaGreatDoor.S
open Go Go.RowKit Go.Maps

/-- The number that digits tell. -/
def valD (l : List UInt8) : Nat := l.foldl (fun a d => a * 10 + (d.toNat - 48)) 0
theorem valD_itoa : ∀ n : Fin 700, valD (Lib.itoa ((n.val : Nat) : Int)) = n.val := by decide +kernel
theorem podName_inj {u v : Int} (h : podName u = podName v) (h0 : 0 ≤ u) (h1 : u < 700) (h2 : 0 ≤ v) (h3 : v < 700) : u = v := by
  have e : (podName u).data.toList = (podName v).data.toList := by rw [h]
  rw [podName_head, podName_head] at e
  injection e with _ e
  have a := valD_itoa ⟨u.toNat, by omega⟩
  have b := valD_itoa ⟨v.toNat, by omega⟩
  simp only at a b
  rw [show ((u.toNat : Nat) : Int) = u by omega] at a
  rw [show ((v.toNat : Nat) : Int) = v by omega] at b
  rw [e] at a
  omega

section
variable {own : Nat → Nat} {w : World} {i sb rb : Nat}
theorem ob_eta (o : Ob) : (⟨o.kind, o.name, o.uid, o.version, o.replicas, o.status, o.owner, o.phase, o.gone⟩ : Ob) = o := rfl

theorem pair_get (hth : Thing own w i sb rb) (k : Int) (s : ByteArray) (h0 : 0 ≤ k) (h1 : k ≤ 255) (hs : s.size ≤ maxLen) :
    PairOf own w i sb rb 52 53 #[.pointer (some ⟨sb, 0, none⟩), .int .u8 k, .string s] #[.pointer (some ⟨rb, 0, none⟩), .int .u8 k, .string s] := by
  have hth0 := hth
  obtain ⟨mb, lim, ver, cre, f, n, D, pv, ev, nv, sp, pre, l, es, hS, o1, o2, hR, hrel⟩ := hth
  have hv0 := hrel.inv.v0
  have hv1 := hrel.inv.v1
  have hc0 := hrel.inv.c0
  have hc1 := hrel.inv.c1
  have hvp := hrel.vp
  have hnn := hrel.inv.nn
  have hb1 := hrel.b1
  have hbl := hrel.bl
  have hbe := hrel.be
  rcases hrel.look hS k s h0 h1 hs with ⟨o, ha, hg, hob⟩ | ⟨ha, hg, _⟩
  · refine pair_same hth0 hS o1 o2 hR hrel o 0 (get_hit w sb mb lim ver cre (logOf f) n D k s o hS h0 h1 hs ha) (fun C W hW => ?_)
    have := rget_any hW hb1 (by omega) hrel.kb k s h0 h1
    rw [hg] at this
    exact this
  · refine pair_same hth0 hS o1 o2 hR hrel Ob.zero 3 (get_miss w sb mb lim ver cre (logOf f) n D k s hS h0 h1 hs ha) (fun C W hW => ?_)
    have := rget_any hW hb1 (by omega) hrel.kb k s h0 h1
    rw [hg] at this
    exact this

/-- What target answers, by what is found. -/
theorem tgt_full {l : List Ob} {pre : List (List Ob)} (h : pre.length = 600) (k : Int) (s : ByteArray) (u v : Int) : tgtA (decide (pre.length = 600)) l k s u v = (Ob.zero, 6) := by
  unfold tgtA
  rw [decide_eq_true h, if_pos rfl]
theorem tgt_miss {l : List Ob} {pre : List (List Ob)} (h : pre.length ≠ 600) {k : Int} {s : ByteArray} (hg : getA l k s = (Ob.zero, 3)) (u v : Int) : tgtA (decide (pre.length = 600)) l k s u v = (Ob.zero, 3) := by
  unfold tgtA
  rw [decide_eq_false h, hg]
  rfl
theorem tgt_hit {l : List Ob} {pre : List (List Ob)} (h : pre.length ≠ 600) {k : Int} {s : ByteArray} {o : Ob} (hg : getA l k s = (o, 0)) {u v : Int} (h1 : isOtherB u o.uid = false) (h2 : isOtherB v o.version = false) : tgtA (decide (pre.length = 600)) l k s u v = (o, 0) := by
  unfold tgtA
  rw [decide_eq_false h, hg]
  simp [h1, h2]
theorem tgt_conf {l : List Ob} {pre : List (List Ob)} (h : pre.length ≠ 600) {k : Int} {s : ByteArray} {o : Ob} (hg : getA l k s = (o, 0)) {u v : Int} (h1 : (isOtherB u o.uid || isOtherB v o.version) = true) : tgtA (decide (pre.length = 600)) l k s u v = (Ob.zero, 4) := by
  unfold tgtA
  rw [decide_eq_false h, hg]
  simp only [h1]
  rfl
theorem isOther0 (x : Int) : isOtherB 0 x = false := rfl

theorem pair_mark (hth : Thing own w i sb rb) (s : ByteArray) (hs : s.size ≤ maxLen) :
    PairOf own w i sb rb 59 60 #[.pointer (some ⟨sb, 0, none⟩), .string s] #[.pointer (some ⟨rb, 0, none⟩), .string s] := by
  have hth0 := hth
  obtain ⟨mb, lim, ver, cre, f, n, D, pv, ev, nv, sp, pre, l, es, hS, o1, o2, hR, hrel⟩ := hth
  have hv0 := hrel.inv.v0
  have hv1 := hrel.inv.v1
  have hc0 := hrel.inv.c0
  have hc1 := hrel.inv.c1
  have hvp := hrel.vp
  have hnn := hrel.inv.nn
  have hb1 := hrel.b1
  have hbl := hrel.bl
  have hbe := hrel.be
  by_cases hv : ver = 600
  · exact pair_same hth0 hS o1 o2 hR hrel Ob.zero 6 (mark_refused w sb s 6 rfl (fun o => forWriting_old _ sb mb lim ver cre (logOf f) n D 1 s (hS.alloc o) hv)) (fun C W hW => rmark_err hW rfl rfl hb1 (by omega) hrel.kb s 6 rfl (tgt_full (by omega) _ _ _ _))
  have hp6 : pre.length ≠ 600 := by omega
  rcases hrel.look hS 1 s (by omega) (by omega) hs with ⟨o, ha, hg, hob⟩ | ⟨ha, hg, _⟩
  · obtain ⟨a0, a1, a2, a3, a4, a5, a6, a7, a8⟩ := o
    obtain rfl : a0 = 1 := hob.kind
    obtain rfl : a1 = s := hob.name
    have hu1 := hob.u1
    have hu2 := hob.u2
    have htg := tgt_hit hp6 hg (u := 0) (v := 0) rfl rfl
    cases a8 with
    | true =>
      refine pair_kept hS o1 o2 hR hrel ⟨1, a1, a2, a3, a4, a5, a6, a7, true⟩ 0 ?_ (fun C W hW => rmark_same hW rfl rfl hb1 (by omega) hrel.kb a1 1 a1 a2 a3 a4 a5 a6 a7 htg)
      refine mark_ok w sb mb lim ver cre (logOf f) n D a1 1 a1 a2 a3 a4 a5 a6 a7 true 1 a1 a2 a3 a4 a5 a6 a7 true ver _ _ _ hS hv hs ha (fun W hW => ?_)
      refine (turn_same 1 a1 a2 a3 a4 a5 a6 a7 true W sb).mono ?_
      rintro e w' ⟨rfl, hbw⟩
      exact ⟨rfl, hW.below hbw, belowKept hbw⟩
    | false =>
      have hI := hrel.inv.put (cre' := cre) (by omega) (Int.le_refl _) (by omega) (k := 1) (s := a1) (o := ⟨1, a1, a2, ver + 1, a4, a5, a6, a7, true⟩) (by omega) (by omega) hs ⟨rfl, rfl, Or.inr rfl, by simp; omega, by simp, hu1, hu2, fun e => (by cases e), hob.pod⟩
      have hml : (1000 : Nat) < maxLen := by unfold maxLen; omega
      refine pair_wrote (so := 1) (X := ⟨1, a1, a2, ver + 1, a4, a5, a6, a7, true⟩) hS o1 o2 hR hrel (hrel.wrote (Or.inr rfl) hs rfl hI (Or.inl ⟨_, ha⟩)) ?_ (fun C W hk hW hC => ?_)
      · refine mark_ok w sb mb lim ver cre (logOf f) n D a1 1 a1 a2 a3 a4 a5 a6 a7 false 1 a1 a2 (ver + 1) a4 a5 a6 a7 true (ver + 1) _ _ _ hS hv hs ha (fun W hW => ?_)
        exact turn_other 1 a1 a2 a3 a4 a5 a6 a7 false 1 a1 a2 a3 a4 a5 a6 a7 true W sb mb lim ver cre (logOf f) n D hW (by simp [eqB]) hv0 (by omega) (by omega) (by omega) hs (by omega)
      · have := rmark_write hW rfl rfl hC hb1 (by omega) (by omega) hrel.kb hrel.known.nd a1 1 a1 a2 a3 a4 a5 a6 a7 (by omega) (by omega) (by omega) htg
        rw [← hvp] at this
        exact this
  · exact pair_same hth0 hS o1 o2 hR hrel Ob.zero 3 (mark_refused w sb s 3 rfl (fun o => forWriting_miss _ sb mb lim ver cre (logOf f) n D 1 s (hS.alloc o) hv (by omega) (by omega) hs ha)) (fun C W hW => rmark_err hW rfl rfl hb1 (by omega) hrel.kb s 3 rfl (tgt_miss hp6 hg _ _))

theorem pair_remove (hth : Thing own w i sb rb) (k : Int) (s : ByteArray) (ve : Int) (h0 : 0 ≤ k) (h1 : k ≤ 255) (hs : s.size ≤ maxLen) :
    PairOf own w i sb rb 61 62 #[.pointer (some ⟨sb, 0, none⟩), .int .u8 k, .string s, .int .i64 ve] #[.pointer (some ⟨rb, 0, none⟩), .int .u8 k, .string s, .int .i64 ve] := by
  have hth0 := hth
  obtain ⟨mb, lim, ver, cre, f, n, D, pv, ev, nv, sp, pre, l, es, hS, o1, o2, hR, hrel⟩ := hth
  have hv0 := hrel.inv.v0
  have hv1 := hrel.inv.v1
  have hc0 := hrel.inv.c0
  have hc1 := hrel.inv.c1
  have hvp := hrel.vp
  have hnn := hrel.inv.nn
  have hb1 := hrel.b1
  have hbl := hrel.bl
  have hbe := hrel.be
  by_cases hv : ver = 600
  · exact pair_same hth0 hS o1 o2 hR hrel Ob.zero 6 (remove_refused w sb k s ve 6 rfl (fun o => forWriting_old _ sb mb lim ver cre (logOf f) n D k s (hS.alloc o) hv)) (fun C W hW => rremove_err hW rfl rfl hb1 (by omega) hrel.kb k s ve h0 h1 6 rfl (tgt_full (by omega) _ _ _ _))
  have hp6 : pre.length ≠ 600 := by omega
  rcases hrel.look hS k s h0 h1 hs with ⟨o, ha, hg, hob⟩ | ⟨ha, hg, _⟩
  · obtain ⟨a0, a1, a2, a3, a4, a5, a6, a7, a8⟩ := o
    cases hve : isOtherB ve a3 with
    | true =>
      exact pair_same hth0 hS o1 o2 hR hrel Ob.zero 4 (remove_conflict w sb mb lim ver cre (logOf f) n D k s ve a0 a1 a2 a3 a4 a5 a6 a7 a8 hS hv h0 h1 hs ha hve) (fun C W hW => rremove_err hW rfl rfl hb1 (by omega) hrel.kb k s ve h0 h1 4 rfl (tgt_conf hp6 hg (by simp [hve])))
    | false =>
      obtain rfl : a0 = k := hob.kind
      obtain rfl : a1 = s := hob.name
      refine pair_wrote (so := 2) (X := ⟨a0, a1, a2, ver + 1, a4, a5, a6, a7, a8⟩) hS o1 o2 hR hrel (hrel.wrote hob.kk hs rfl (hrel.inv.del (by omega) h0 h1 hs) (Or.inl ⟨_, ha⟩)) ?_ (fun C W hk hW hC => ?_)
      · exact remove_ok w sb mb lim ver cre (logOf f) n D a0 a1 ve a0 a1 a2 a3 a4 a5 a6 a7 a8 hS hv0 (by omega) h0 h1 hs ha hve
      · have := rremove_write hW rfl rfl hC hb1 (by omega) (by omega) hrel.kb hrel.known.nd a0 a1 ve h0 h1 a0 a1 a2 a3 a4 a5 a6 a7 a8 (by omega) h0 h1 (tgt_hit hp6 hg rfl hve)
        rw [← hvp] at this
        exact this
  · exact pair_same hth0 hS o1 o2 hR hrel Ob.zero 3 (remove_refused w sb k s ve 3 rfl (fun o => forWriting_miss _ sb mb lim ver cre (logOf f) n D k s (hS.alloc o) hv h0 h1 hs ha)) (fun C W hW => rremove_err hW rfl rfl hb1 (by omega) hrel.kb k s ve h0 h1 3 rfl (tgt_miss hp6 hg _ _))

theorem rightUp0 {r t ph : Int} (h : rightUpB 0 r t ph = true) : countsB r t = true := by unfold rightUpB at h; rwa [if_pos rfl] at h
theorem rightUp1 {r t ph : Int} (h : rightUpB 1 r t ph = true) : ph ≤ 2 := by unfold rightUpB at h; simpa using h

theorem pair_update (hth : Thing own w i sb rb) (k : Int) (s : ByteArray) (u v r t ow ph : Int) (g : Bool) (h0 : 0 ≤ k) (h1 : k ≤ 255) (hs : s.size ≤ maxLen) :
    PairOf own w i sb rb 57 58 #[.pointer (some ⟨sb, 0, none⟩), .agg #[.int .u8 k, .string s, .int .i64 u, .int .i64 v, .int .i64 r, .int .i64 t, .int .i64 ow, .int .u8 ph, .bool g]] #[.pointer (some ⟨rb, 0, none⟩), .agg #[.int .u8 k, .string s, .int .i64 u, .int .i64 v, .int .i64 r, .int .i64 t, .int .i64 ow, .int .u8 ph, .bool g]] := by
  have hth0 := hth
  obtain ⟨mb, lim, ver, cre, f, n, D, pv, ev, nv, sp, pre, l, es, hS, o1, o2, hR, hrel⟩ := hth
  have hv0 := hrel.inv.v0
  have hv1 := hrel.inv.v1
  have hc0 := hrel.inv.c0
  have hc1 := hrel.inv.c1
  have hvp := hrel.vp
  have hnn := hrel.inv.nn
  have hb1 := hrel.b1
  have hbl := hrel.bl
  have hbe := hrel.be
  have hml : (1000 : Nat) < maxLen := by unfold maxLen; omega
  cases hr : rightUpB k r t ph with
  | false =>
    refine pair_same hth0 hS o1 o2 hR hrel Ob.zero 1 (update_invalid k s u v r t ow ph g w sb hr) (fun C W hW => ?_)
    by_cases hk0 : k = 0
    · subst hk0
      exact rup_bad0 s u v r t ow ph g W rb (by unfold rightUpB at hr; rwa [if_pos rfl] at hr)
    · by_cases hk1 : k = 1
      · subst hk1
        exact rup_bad1 s u v r t ow ph g W rb (decide_eq_true (by unfold rightUpB at hr; simp at hr; omega))
      · exact rup_bad2 k s u v r t ow ph g W rb (decide_eq_true (by omega))
  | true =>
    have hk : k = 0 ∨ k = 1 := by
      by_cases hk0 : k = 0
      · exact Or.inl hk0
      · by_cases hk1 : k = 1
        · exact Or.inr hk1
        · unfold rightUpB at hr; rw [if_neg hk0, if_neg hk1] at hr; cases hr
    have rerr : ∀ (er : Int), (er != 0) = true → tgtA (decide (pre.length = 600)) l k s u v = (Ob.zero, er) → ∀ C W, IsRef C W rb lim cre pv ev (sp ++ [nv]) (pre ++ [l]) es → Calls Tryz.prog 58 #[.pointer (some ⟨rb, 0, none⟩), .agg #[.int .u8 k, .string s, .int .i64 u, .int .i64 v, .int .i64 r, .int .i64 t, .int .i64 ow, .int .u8 ph, .bool g]] W fun e w' => e = .returned (.tuple #[.agg Ob.zero.arr, .int .i64 er]) ∧ Below W.heap.size W w' := by
      intro er he htg C W hW
      rcases hk with rfl | rfl
      · exact rup_err0 hW rfl rfl hb1 (by omega) hrel.kb s u v r t ow ph g er (rightUp0 hr) htg he
      · exact rup_err1 hW rfl rfl hb1 (by omega) hrel.kb s u v r t ow ph g er (decide_eq_false (by have := rightUp1 hr; omega)) htg he
    by_cases hv : ver = 600
    · exact pair_same hth0 hS o1 o2 hR hrel Ob.zero 6 (update_refused k s u v r t ow ph g w sb mb lim ver cre (logOf f) n D 6 rfl hr hS (fun W hW => forWriting_old W sb mb lim ver cre (logOf f) n D k s hW hv)) (rerr 6 rfl (tgt_full (by omega) _ _ _ _))
    have hp6 : pre.length ≠ 600 := by omega
    rcases hrel.look hS k s h0 h1 hs with ⟨o, ha, hg, hob⟩ | ⟨ha, hg, _⟩
    · obtain ⟨a0, a1, a2, a3, a4, a5, a6, a7, a8⟩ := o
      cases hx : isOtherB u a2 with
      | true => exact pair_same hth0 hS o1 o2 hR hrel Ob.zero 4 (update_conflict k s u v r t ow ph g w sb mb lim ver cre (logOf f) n D a0 a1 a2 a3 a4 a5 a6 a7 a8 hr hS hv h0 h1 hs ha (by simp [hx])) (rerr 4 rfl (tgt_conf hp6 hg (by simp [hx])))
      | false =>
        cases hy : isOtherB v a3 with
        | true => exact pair_same hth0 hS o1 o2 hR hrel Ob.zero 4 (update_conflict k s u v r t ow ph g w sb mb lim ver cre (logOf f) n D a0 a1 a2 a3 a4 a5 a6 a7 a8 hr hS hv h0 h1 hs ha (by simp [hy])) (rerr 4 rfl (tgt_conf hp6 hg (by simp [hy])))
        | false =>
          have hu1 := hob.u1
          have hu2 := hob.u2
          have htg := tgt_hit hp6 hg hx hy
          obtain rfl : a0 = k := hob.kind
          obtain rfl : a1 = s := hob.name
          rcases hk with rfl | rfl
          · have hcb := rightUp0 hr
            obtain ⟨_, hnb, how, hph, hgo⟩ := hob.set rfl
            by_cases hsame : a4 = r ∧ a5 = t
            · obtain ⟨rfl, rfl⟩ := hsame
              refine pair_kept hS o1 o2 hR hrel ⟨0, a1, a2, a3, a4, a5, a6, a7, a8⟩ 0 ?_ (fun C W hW => rup_same0 hW rfl rfl hb1 (by omega) hrel.kb a1 u v a4 a5 ow ph g 0 a1 a2 a3 a4 a5 a6 a7 a8 hcb (by simp) (by simp) htg)
              refine update_set a1 u v a4 a5 ow ph g w sb mb lim ver cre (logOf f) n D 0 a1 a2 a3 a4 a5 a6 a7 a8 0 a1 a2 a3 a4 a5 a6 a7 a8 ver _ _ _ hr hS hv hs ha hx hy (fun W hW => ?_)
              refine (turn_same 0 a1 a2 a3 a4 a5 a6 a7 a8 W sb).mono ?_
              rintro e w' ⟨rfl, hbw⟩
              exact ⟨rfl, hW.below hbw, belowKept hbw⟩
            · have hI := hrel.inv.put (cre' := cre) (by omega) (Int.le_refl _) (by omega) (k := 0) (s := a1) (o := ⟨0, a1, a2, ver + 1, r, t, a6, a7, a8⟩) (by omega) (by omega) hs ⟨rfl, rfl, Or.inl rfl, by simp; omega, by simp, hu1, hu2, fun _ => ⟨hcb, hnb, how, hph, hgo⟩, fun e => (by cases e)⟩
              refine pair_wrote (so := 1) (X := ⟨0, a1, a2, ver + 1, r, t, a6, a7, a8⟩) hS o1 o2 hR hrel (hrel.wrote (Or.inl rfl) hs rfl hI (Or.inl ⟨_, ha⟩)) ?_ (fun C W hk hW hC => ?_)
              · refine update_set a1 u v r t ow ph g w sb mb lim ver cre (logOf f) n D 0 a1 a2 a3 a4 a5 a6 a7 a8 0 a1 a2 (ver + 1) r t a6 a7 a8 (ver + 1) _ _ _ hr hS hv hs ha hx hy (fun W hW => ?_)
                refine turn_other 0 a1 a2 a3 a4 a5 a6 a7 a8 0 a1 a2 a3 r t a6 a7 a8 W sb mb lim ver cre (logOf f) n D hW ?_ hv0 (by omega) (by omega) (by omega) hs (by omega)
                cases he : eqB 0 a1 a2 a3 r t a6 a7 a8 0 a1 a2 a3 a4 a5 a6 a7 a8 with
                | false => rfl
                | true =>
                  obtain ⟨_, _, _, _, e4, e5, _⟩ := eqB_true he
                  exact absurd ⟨e4.symm, e5.symm⟩ hsame
              · by_cases h4 : a4 = r
                · have := rup_write0b hW rfl rfl hC hb1 (by omega) (by omega) hrel.kb hrel.known.nd a1 u v r t ow ph g 0 a1 a2 a3 a4 a5 a6 a7 a8 hcb (by simp [h4]) (by simp; exact fun e => hsame ⟨h4, e⟩) (by omega) (by omega) (by omega) htg
                  rw [← hvp] at this
                  exact this
                · have := rup_write0a hW rfl rfl hC hb1 (by omega) (by omega) hrel.kb hrel.known.nd a1 u v r t ow ph g 0 a1 a2 a3 a4 a5 a6 a7 a8 hcb (by simp [h4]) (by omega) (by omega) (by omega) htg
                  rw [← hvp] at this
                  exact this
          · have hpb := rightUp1 hr
            obtain ⟨hpn, how, hpo, hr0, ht0⟩ := hob.pod rfl
            by_cases hsame : a7 = ph
            · subst hsame
              refine pair_kept hS o1 o2 hR hrel ⟨1, a1, a2, a3, a4, a5, a6, a7, a8⟩ 0 ?_ (fun C W hW => rup_same1 hW rfl rfl hb1 (by omega) hrel.kb a1 u v r t ow a7 g 1 a1 a2 a3 a4 a5 a6 a7 a8 (decide_eq_false (by omega)) (by simp) htg)
              refine update_pod a1 u v r t ow a7 g w sb mb lim ver cre (logOf f) n D 1 a1 a2 a3 a4 a5 a6 a7 a8 1 a1 a2 a3 a4 a5 a6 a7 a8 ver _ _ _ hr hS hv hs ha hx hy (fun W hW => ?_)
              refine (turn_same 1 a1 a2 a3 a4 a5 a6 a7 a8 W sb).mono ?_
              rintro e w' ⟨rfl, hbw⟩
              exact ⟨rfl, hW.below hbw, belowKept hbw⟩
            · have hI := hrel.inv.put (cre' := cre) (by omega) (Int.le_refl _) (by omega) (k := 1) (s := a1) (o := ⟨1, a1, a2, ver + 1, a4, a5, a6, ph, a8⟩) (by omega) (by omega) hs ⟨rfl, rfl, Or.inr rfl, by simp; omega, by simp, hu1, hu2, fun e => (by cases e), fun _ => ⟨hpn, how, hpb, hr0, ht0⟩⟩
              refine pair_wrote (so := 1) (X := ⟨1, a1, a2, ver + 1, a4, a5, a6, ph, a8⟩) hS o1 o2 hR hrel (hrel.wrote (Or.inr rfl) hs rfl hI (Or.inl ⟨_, ha⟩)) ?_ (fun C W hk hW hC => ?_)
              · refine update_pod a1 u v r t ow ph g w sb mb lim ver cre (logOf f) n D 1 a1 a2 a3 a4 a5 a6 a7 a8 1 a1 a2 (ver + 1) a4 a5 a6 ph a8 (ver + 1) _ _ _ hr hS hv hs ha hx hy (fun W hW => ?_)
                refine turn_other 1 a1 a2 a3 a4 a5 a6 a7 a8 1 a1 a2 a3 a4 a5 a6 ph a8 W sb mb lim ver cre (logOf f) n D hW ?_ hv0 (by omega) (by omega) (by omega) hs (by omega)
                cases he : eqB 1 a1 a2 a3 a4 a5 a6 ph a8 1 a1 a2 a3 a4 a5 a6 a7 a8 with
                | false => rfl
                | true =>
                  obtain ⟨_, _, _, _, _, _, _, e7, _⟩ := eqB_true he
                  exact absurd e7.symm hsame
              · have := rup_write1 hW rfl rfl hC hb1 (by omega) (by omega) hrel.kb hrel.known.nd a1 u v r t ow ph g 1 a1 a2 a3 a4 a5 a6 a7 a8 (decide_eq_false (by omega)) (by simp [hsame]) (by omega) (by omega) (by omega) htg
                rw [← hvp] at this
                exact this
    · exact pair_same hth0 hS o1 o2 hR hrel Ob.zero 3 (update_refused k s u v r t ow ph g w sb mb lim ver cre (logOf f) n D 3 rfl hr hS (fun W hW => forWriting_miss W sb mb lim ver cre (logOf f) n D k s hW hv h0 h1 hs ha)) (rerr 3 rfl (tgt_miss hp6 hg _ _))

theorem pair_create (hth : Thing own w i sb rb) (hT : Tab w) (hot : own 1 ≠ 2 * i + 1 ∧ own 1 ≠ 0) (hs1 : 1 < sb) (hrb1 : rb ≠ 1) (hm1 : ∀ mb, own mb = 2 * i + 1 → 1 < mb) (k : Int) (s : ByteArray) (u v r t ow ph : Int) (g : Bool) (h0 : 0 ≤ k) (h1 : k ≤ 255) (hs : s.size ≤ maxLen) :
    PairOf own w i sb rb 50 51 #[.pointer (some ⟨sb, 0, none⟩), .agg #[.int .u8 k, .string s, .int .i64 u, .int .i64 v, .int .i64 r, .int .i64 t, .int .i64 ow, .int .u8 ph, .bool g]] #[.pointer (some ⟨rb, 0, none⟩), .agg #[.int .u8 k, .string s, .int .i64 u, .int .i64 v, .int .i64 r, .int .i64 t, .int .i64 ow, .int .u8 ph, .bool g]] := by
  have hth0 := hth
  obtain ⟨mb, lim, ver, cre, f, n, D, pv, ev, nv, sp, pre, l, es, hS, o1, o2, hR, hrel⟩ := hth
  have hv0 := hrel.inv.v0
  have hv1 := hrel.inv.v1
  have hc0 := hrel.inv.c0
  have hc1 := hrel.inv.c1
  have hvp := hrel.vp
  have hnn := hrel.inv.nn
  have hb1 := hrel.b1
  have hbl := hrel.bl
  have hbe := hrel.be
  have hml : (1000 : Nat) < maxLen := by unfold maxLen; omega
  have hmb1 := hm1 mb o2
  cases hr : rightCrB k s r t ow ph with
  | false =>
    refine pair_same hth0 hS o1 o2 hR hrel Ob.zero 1 (create_refused k s u v r t ow ph g w sb mb lim ver cre (logOf f) n D 1 rfl hS (fun W hW => may_invalid k s u v r t ow ph g W sb hs hr)) (fun C W hW => ?_)
    unfold rightCrB at hr
    by_cases hk0 : k = 0
    · subst hk0
      rw [if_pos rfl] at hr
      cases hn : nameB s with
      | false => exact rcr_bad0a s hs u v r t ow ph g W rb hn
      | true =>
        cases hm : countsB r t with
        | false => exact rcr_bad0b s hs u v r t ow ph g W rb hn hm
        | true =>
          cases ho : (ow == 0) with
          | false => exact rcr_bad0c s hs u v r t ow ph g W rb hn hm ho
          | true =>
            cases hp : (ph == 0) with
            | false => exact rcr_bad0d s hs u v r t ow ph g W rb hn hm ho hp
            | true => rw [hn, hm, ho, hp] at hr; cases hr
    · rw [if_neg hk0] at hr
      by_cases hk1 : k = 1
      · subst hk1
        rw [if_pos rfl] at hr
        cases he : s.toList.isEmpty with
        | false => exact rcr_bad1a s hs u v r t ow ph g W rb he
        | true =>
          by_cases ho : 1 ≤ ow
          · by_cases hp : ph ≤ 2
            · cases hr0 : (r == 0) with
              | false => exact rcr_bad1d s hs u v r t ow ph g W rb he (decide_eq_true (by omega)) (decide_eq_true (by omega)) hr0
              | true =>
                cases ht0 : (t == 0) with
                | false => exact rcr_bad1e s hs u v r t ow ph g W rb he (decide_eq_true (by omega)) (decide_eq_true (by omega)) hr0 ht0
                | true => rw [he, hr0, ht0, decide_eq_true ho, decide_eq_true hp] at hr; cases hr
            · exact rcr_bad1c s hs u v r t ow ph g W rb he (decide_eq_true (by omega)) (decide_eq_false (by omega))
          · exact rcr_bad1b s hs u v r t ow ph g W rb he (decide_eq_false (by omega))
      · exact rcr_bad2 k s hs u v r t ow ph g W rb (by simpa using hk0) (by simpa using hk1)
  | true =>
    have hr2 := hr
    unfold rightCrB at hr2
    by_cases hk0 : k = 0
    · subst hk0
      rw [if_pos rfl] at hr2
      simp only [Bool.and_eq_true] at hr2
      obtain ⟨⟨⟨hnb, hcb⟩, how⟩, hph⟩ := hr2
      have hns := nameB_size hnb
      by_cases hv : ver = 600
      · exact pair_same hth0 hS o1 o2 hR hrel Ob.zero 6 (create_refused 0 s u v r t ow ph g w sb mb lim ver cre (logOf f) n D 6 rfl hS (fun W hW => may_old 0 s u v r t ow ph g W sb mb lim ver cre (logOf f) n D hW hv hs hr)) (fun C W hW => rcr_old0 hW rfl rfl hb1 s hs u v r t ow ph g hnb hcb how hph (by omega))
      rcases hrel.look hS 0 s h0 h1 hs with ⟨o, ha, hg, hob⟩ | ⟨ha, hg, hat⟩
      · refine pair_same hth0 hS o1 o2 hR hrel Ob.zero 2 (create_refused 0 s u v r t ow ph g w sb mb lim ver cre (logOf f) n D 2 rfl hS (fun W hW => may_exists 0 s u v r t ow ph g W sb mb lim ver cre (logOf f) n D o hW hv h0 h1 hs hr ha)) (fun C W hW => rcr_exists hW rfl rfl hb1 (by omega) hrel.kb s hs u v r t ow ph g hnb hcb how hph (by omega) ?_)
        rcases atL_cases 0 s l with ⟨i, hi, hat, _⟩ | ⟨hat, _⟩
        · omega
        · rw [getA_miss hat] at hg; cases hg
      · by_cases hf : (l.length : Int) = lim
        · have hf2 : ((Maps.size D : Int) == lim) = true := by rw [hrel.size]; simp [hf]
          exact pair_same hth0 hS o1 o2 hR hrel Ob.zero 5 (create_refused 0 s u v r t ow ph g w sb mb lim ver cre (logOf f) n D 5 rfl hS (fun W hW => may_full 0 s u v r t ow ph g W sb mb lim ver cre (logOf f) n D hW hv h0 h1 hs hr ha true hf2)) (fun C W hW => rcr_full0 hW rfl rfl hb1 (by omega) hrel.kb s hs u v r t ow ph g hnb hcb how hph (by omega) hat (by omega))
        · have hf2 : ((Maps.size D : Int) == lim) = false := by rw [hrel.size]; simp [hf]
          have hfull := hrel.full
          have hI := hrel.inv.put (cre' := cre + 1) (by omega) (by omega) (by omega) (k := 0) (s := s) (o := ⟨0, s, cre + 1, ver + 1, r, t, ow, ph, false⟩) (by omega) (by omega) hs ⟨rfl, rfl, Or.inl rfl, by simp; omega, by simp, by simp; omega, by simp, fun _ => ⟨hcb, hnb, by simpa using how, by simpa using hph, rfl⟩, fun e => (by cases e)⟩
          refine pair_wrote (so := 0) (X := ⟨0, s, cre + 1, ver + 1, r, t, ow, ph, false⟩) hS o1 o2 hR hrel (hrel.wrote (Or.inl rfl) hs rfl hI (Or.inr ⟨ha, by omega, by omega⟩)) ?_ (fun C W hk hW hC => ?_)
          · exact create_ok 0 s u v r t ow ph g w sb mb lim ver cre (logOf f) n D s hS hv0 (by omega) hc0 (by omega) h0 h1 hs (by omega) hs1 hmb1 (fun W hW => may_full 0 s u v r t ow ph g W sb mb lim ver cre (logOf f) n D hW hv h0 h1 hs hr ha false hf2) (fun W _ _ => ownName_set s (cre + 1) v r t ow ph false W (by omega))
          · have := rcr_ok0 hW rfl rfl hC hb1 (by omega) (by omega) hrel.kb hrel.known.nd s hs u v r t ow ph g hnb hcb how hph (by omega) hat (by omega) hc0 (by omega)
            rw [← hvp] at this
            exact this
    · rw [if_neg hk0] at hr2
      by_cases hk1 : k = 1
      · subst hk1
        rw [if_pos rfl] at hr2
        simp only [Bool.and_eq_true, decide_eq_true_eq] at hr2
        obtain ⟨⟨⟨⟨hem, how⟩, hph⟩, hr0⟩, ht0⟩ := hr2
        obtain rfl : s = ⟨#[]⟩ := toList_inj (by rw [List.isEmpty_iff.1 hem, ByteArray.toList_eq])
        have hps := podName_size (cre + 1) (by omega) (by omega)
        have hpm : (podName (cre + 1)).size ≤ maxLen := by unfold maxLen; omega
        by_cases hv : ver = 600
        · exact pair_same hth0 hS o1 o2 hR hrel Ob.zero 6 (create_refused 1 ⟨#[]⟩ u v r t ow ph g w sb mb lim ver cre (logOf f) n D 6 rfl hS (fun W hW => may_old 1 ⟨#[]⟩ u v r t ow ph g W sb mb lim ver cre (logOf f) n D hW hv hs hr)) (fun C W hW => rcr_old1 hW rfl rfl hb1 u v r t ow ph g (decide_eq_true (by omega)) (decide_eq_true (by omega)) hr0 ht0 (by omega))
        have hout : Out D 1 ⟨#[]⟩ := by
          rcases hrel.look hS 1 ⟨#[]⟩ h0 h1 hs with ⟨o, ha, hg, hob⟩ | ⟨ha, _, _⟩
          · have e1 := (hob.pod rfl).1
            have : (⟨#[]⟩ : ByteArray).data.toList = (podName o.uid).data.toList := by rw [← e1]
            rw [podName_head] at this
            cases this
          · exact ha
        have hout2 : Out D 1 (podName (cre + 1)) := by
          rcases hrel.look hS 1 (podName (cre + 1)) h0 h1 hpm with ⟨o, ha, hg, hob⟩ | ⟨ha, _, _⟩
          · have e1 := (hob.pod rfl).1
            have hu1 := hob.u1
            have hu2 := hob.u2
            have := podName_inj e1 (by omega) (by omega) (by omega) (by omega)
            omega
          · exact ha
        by_cases hf : (l.length : Int) = lim
        · have hf2 : ((Maps.size D : Int) == lim) = true := by rw [hrel.size]; simp [hf]
          exact pair_same hth0 hS o1 o2 hR hrel Ob.zero 5 (create_refused 1 ⟨#[]⟩ u v r t ow ph g w sb mb lim ver cre (logOf f) n D 5 rfl hS (fun W hW => may_full 1 ⟨#[]⟩ u v r t ow ph g W sb mb lim ver cre (logOf f) n D hW hv h0 h1 hs hr hout true hf2)) (fun C W hW => rcr_full1 hW rfl rfl hb1 u v r t ow ph g (decide_eq_true (by omega)) (decide_eq_true (by omega)) hr0 ht0 (by omega) (by omega))
        · have hf2 : ((Maps.size D : Int) == lim) = false := by rw [hrel.size]; simp [hf]
          have hfull := hrel.full
          have hI := hrel.inv.put (cre' := cre + 1) (by omega) (by omega) (by omega) (k := 1) (s := podName (cre + 1)) (o := ⟨1, podName (cre + 1), cre + 1, ver + 1, r, t, ow, ph, false⟩) (by omega) (by omega) hpm ⟨rfl, rfl, Or.inr rfl, by simp; omega, by simp, by simp; omega, by simp, fun e => (by cases e), fun _ => ⟨rfl, how, hph, by simpa using hr0, by simpa using ht0⟩⟩
          refine pair_wrote (so := 0) (X := ⟨1, podName (cre + 1), cre + 1, ver + 1, r, t, ow, ph, false⟩) hS o1 o2 hR hrel (hrel.wrote (Or.inr rfl) hpm rfl hI (Or.inr ⟨hout2, by omega, by omega⟩)) ?_ (fun C W hk hW hC => ?_)
          · exact create_ok 1 ⟨#[]⟩ u v r t ow ph g w sb mb lim ver cre (logOf f) n D (podName (cre + 1)) hS hv0 (by omega) hc0 (by omega) h0 h1 hpm (by omega) hs1 hmb1 (fun W hW => may_full 1 ⟨#[]⟩ u v r t ow ph g W sb mb lim ver cre (logOf f) n D hW hv h0 h1 hs hr hout false hf2) (fun W hW1 hWs => ownName_pod ⟨#[]⟩ (cre + 1) v r t ow ph false W (hT.keep hW1) hWs (by omega) (by omega))
          · have hTW : Tab W := hT.keep (hk 1 hT.lt hot.1 hot.2)
            have := rcr_ok1 hW rfl rfl hC hb1 (by omega) (by omega) hrel.kb hrel.known.nd u v r t ow ph g (decide_eq_true (by omega)) (decide_eq_true (by omega)) hr0 ht0 (by omega) (by omega) hTW hrb1 hc0 (by omega)
            rw [← hvp] at this
            exact this
      · rw [if_neg hk1] at hr2
        cases hr2
end

end Go.Proofs.YtdgfjneapialdaaGreatDoor.S
