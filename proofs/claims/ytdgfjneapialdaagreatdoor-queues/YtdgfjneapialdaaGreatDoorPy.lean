import Derived.Test.YtdgfjneapialdaaGreatDoorPv
import Derived.Test.YtdgfjneapialdaaGreatDoorPu
namespace Go.Proofs.YtdgfjneapialdaaGreatDoor
open Go Go.RowKit Go.Maps Go.Lib Go.Sort

section
variable {C : Nat → Prop} {w : World} {rb : Nat} {v1 v2 v3 v4 v5 : Value} {r : RS}
/-- After of the reference, with nothing to wait for. -/
theorem rafter_neg (h : IsR C w rb v1 v2 v3 v4 v5 r) (hC : ∀ b, C b → b < w.heap.size) (hl1 : r.row.length ≤ 1999999999999) (hl2 : r.hand.length ≤ 1999999999999) (hl3 : r.again.length ≤ 1999999999999) (k : ByteArray) (hs : k.size ≤ maxLen) (hno : noKeyB k = false) (t : Int) (ht : t ≤ 0) :
    Calls Tryz.prog 70 #[.pointer (some ⟨rb, 0, none⟩), .string k, .int .i64 t] w fun e w' => e = .returned (.int .i64 0) ∧ RIs C w w' rb (r.add k) := by
  have h92 := fun w => noKey_any k w hs
  have hc := radd_any h hC hl1 hl2 hl3 k hs hno
  rw [hno] at h92
  have hd : decide (t ≤ 0) = true := decide_eq_true ht
  clear h hC hl1 hl2 hl3 hs hno ht
  go_enter Tryz.func70, Tryz.ntmps70
  go_wp2_with fail
  refine (h92 _).mono ?_
  rintro e w' ⟨rfl, rfl⟩
  go_wp2_with fail
  refine hc.mono ?_
  rintro e w1 ⟨rfl, hq⟩
  go_wp2
  go_ret
  exact ⟨rfl, hq⟩
end

section
variable {U : List ByteArray} {s : QS} {r r' : RS} {k : ByteArray}
theorem QOk.forget (h : QOk U s) : QOk U (s.forget k) := by
  refine ⟨h.nd, h.mem, h.pls, h.dus, fun x v hx => ?_, h.c0⟩
  change upd s.fa k none x = some v at hx
  by_cases e : x = k
  · subst e; rw [upd_same] at hx; cases hx
  · rw [upd_other _ e] at hx; exact h.fas x v hx
theorem QOk.after (h : QOk U s) (hk : k ∈ U) (t : Int) : QOk U (s.after k t) := by
  unfold QS.after
  split
  · exact h.add hk
  · exact h.dueIn hk (by omega)
theorem back_pos (n : Int) : 0 < QS.back n := by
  unfold QS.back
  split
  · omega
  · split
    · omega
    · split <;> omega
theorem QOk.limited (h : QOk U s) (hk : k ∈ U) : QOk U (s.limited k) := (h.dueIn hk (back_pos _)).failed
theorem QOk.ticked (h : QOk U s) {ks : List ByteArray} (hn : Nexts s ks) : QOk U (s.ticked ks) := by
  have h1 := (QMid.start h hn).fold (fun k hk => (h.dus k _ ((hn.mem k).1 hk)).2) ks.length (Nat.le_refl _)
  rw [List.take_length, List.drop_length] at h1
  exact h1.fin
theorem ticked_ck (s : QS) (ks : List ByteArray) : (s.ticked ks).ck = s.ck + 1 := by
  unfold QS.ticked
  have : ∀ (l : List ByteArray) (s : QS), (l.foldl QS.one s).ck = s.ck := by
    intro l
    induction l with
    | nil => intro s; rfl
    | cons x t ih => intro s; rw [List.foldl_cons, ih, one_ck]
  rw [this]
  rfl
theorem dueIn_ck (s : QS) (k : ByteArray) (t : Int) : (s.dueIn k t).ck = s.ck := by
  unfold QS.dueIn
  split
  · rfl
  · split <;> rfl
theorem done_ck (s : QS) (k : ByteArray) : (s.done k).ck = s.ck := by
  unfold QS.done QS.wait
  split
  · rfl
  · split <;> rfl
theorem failed_ck (s : QS) (k : ByteArray) : (s.failed k).ck = s.ck := by
  unfold QS.failed
  split <;> rfl
theorem tickR_fails {c : Int} (h : TickR c r r') : r'.fails = r.fails := by
  induction h with
  | stop => rfl
  | step i hi hm hc h ih => rw [ih, (add_dues _ _).2.2.1]
theorem bump_bd {l : List Dk} {n : Int} (h : ∀ x ∈ l, x.2 ≤ n) (hn : 0 ≤ n) (k : List UInt8) : ∀ x ∈ l.map (bump1 k) ++ (if hasK k l then [] else [(k, 1)]), x.2 ≤ n + 1 := by
  intro x hx
  rcases List.mem_append.1 hx with hx | hx
  · obtain ⟨y, hy, rfl⟩ := List.mem_map.1 hx
    have := h y hy
    unfold bump1
    split
    · show y.2 + 1 ≤ n + 1; omega
    · omega
  · split at hx
    · simp at hx
    · simp at hx; subst hx; show (1 : Int) ≤ n + 1; omega
theorem clear_bd {l : List Dk} {n : Int} (h : ∀ x ∈ l, x.2 ≤ n) (hn : 0 ≤ n) (k : List UInt8) : ∀ x ∈ l.map (clear1 k), x.2 ≤ n + 1 := by
  intro x hx
  obtain ⟨y, hy, rfl⟩ := List.mem_map.1 hx
  have := h y hy
  unfold clear1
  split
  · show (0 : Int) ≤ n + 1; omega
  · omega
end

/-- The i-th pair of queues, after n steps at most. -/
def Thing (own : Nat → Nat) (U : List ByteArray) (w : World) (i qb rb n : Nat) : Prop := ∃ s r, Both own U w i qb rb s r ∧ s.ck ≤ (n : Int) ∧ ∀ x ∈ r.fails, x.2 ≤ (n : Int)
/-- The keys of a script. -/
structure Keys (U : List ByteArray) : Prop where
  len : U.length ≤ 999999999999
  key : ∀ k ∈ U, noKeyB k = false ∧ k.size ≤ maxLen
theorem Keys.len2 {U : List ByteArray} (h : Keys U) : U.length ≤ 1000000000000 := by have := h.len; omega
theorem Keys.sz {U : List ByteArray} (h : Keys U) {k : ByteArray} (hk : k ∈ U) : 1 ≤ k.size ∧ k.size ≤ 8 := key_of_noKey (h.key k hk).1

section
variable {own : Nat → Nat} {U : List ByteArray} {w w' : World} {i qb rb n a b : Nat}
theorem Thing.more (h : Thing own U w i qb rb n) : Thing own U w i qb rb (n + 1) := by
  obtain ⟨s, r, hb, h1, h2⟩ := h
  exact ⟨s, r, hb, by omega, fun x hx => by have := h2 x hx; omega⟩
theorem Thing.other (h : Thing own U w i qb rb n) (h1 : a ≠ 2 * i + 1) (h2 : a ≠ 2 * i + 2) (k : KeptC (Others own w a) w w') : Thing (ownNew own w a) U w' i qb rb n := by
  obtain ⟨s, r, hb, h3, h4⟩ := h
  exact ⟨s, r, hb.other h1 h2 k, h3, h4⟩
theorem Both.halves {w1 : World} {s : QS} {r : RS} (h : Both own U w i qb rb s r) (k1 : Below w.heap.size w w1) (k2 : Below w1.heap.size w1 w') : Both (ownNew (ownNew own w (2 * i + 1)) w1 (2 * i + 2)) U w' i qb rb s r := by
  obtain ⟨pm, dm, fm, rv, hq⟩ := h.qs
  obtain ⟨v1, v2, v3, v4, v5, hr⟩ := h.rs
  have hr1 := hr.other (i := 2 * i + 1) (by omega) (KeptC.of_below k1 rfl)
  exact ⟨⟨pm, dm, fm, rv, ((hq.below k1).same k1.size).other (by omega) (KeptC.of_below k2 rfl)⟩, ⟨v1, v2, v3, v4, v5, (hr1.below k2).same k2.size⟩, h.ok, h.rel⟩
theorem Thing.halves {w1 : World} (h : Thing own U w i qb rb n) (k1 : Below w.heap.size w w1) (k2 : Below w1.heap.size w1 w') : Thing (ownNew (ownNew own w (2 * i + 1)) w1 (2 * i + 2)) U w' i qb rb n := by
  obtain ⟨s, r, hb, h3, h4⟩ := h
  exact ⟨s, r, hb.halves k1 k2, h3, h4⟩
end

def IsErr (c : Value) : Prop := ∃ x : Int, c = .int .i64 x
def IsTook (c : Value) : Prop := ∃ (k : ByteArray) (b : Bool), c = .tuple #[.string k, .bool b] ∧ k.size ≤ maxLen
/-- What is to be said of a call on the i-th pair, the program's first. -/
def PairOf (P : Value → Prop) (own : Nat → Nat) (U : List ByteArray) (w : World) (i qb rb n f g : Nat) (xs ys : Array Value) : Prop :=
  Calls Tryz.prog f xs w fun e w1 => ∃ c, P c ∧ e = .returned c ∧ KeptC (Others own w (2 * i + 1)) w w1 ∧
    Calls Tryz.prog g ys w1 fun e w2 => e = .returned c ∧ KeptC (Others (ownNew own w (2 * i + 1)) w1 (2 * i + 2)) w1 w2 ∧ Thing (ownNew (ownNew own w (2 * i + 1)) w1 (2 * i + 2)) U w2 i qb rb n

section
variable {own : Nat → Nat} {U : List ByteArray} {w w' : World} {i qb rb n : Nat}
theorem bd1 {a b : Nat} (h : a ≤ b) (hb : b ≤ 999999999999) : a ≤ 1999999999999 := by omega
theorem pair_add (h : Thing own U w i qb rb n) (hU : Keys U) (k : ByteArray) (hs : k.size ≤ maxLen) (hk : noKeyB k = false → k ∈ U) :
    PairOf IsErr own U w i qb rb (n + 1) 67 68 #[.pointer (some ⟨qb, 0, none⟩), .string k] #[.pointer (some ⟨rb, 0, none⟩), .string k] := by
  cases hno : noKeyB k with
  | true =>
    refine (add_no k w _ hs hno).mono ?_
    rintro e w1 ⟨rfl, rfl⟩
    refine ⟨_, ⟨_, rfl⟩, rfl, KeptC.refl _ _, ?_⟩
    refine (radd_no k _ _ hs hno).mono ?_
    rintro e w2 ⟨rfl, rfl⟩
    exact ⟨rfl, KeptC.refl _ _, h.more.halves (Below.refl _ _) (Below.refl _ _)⟩
  | false =>
    have hkU := hk hno
    obtain ⟨s, r, hb, h1, h2⟩ := h
    obtain ⟨pm, dm, fm, rv, hq⟩ := hb.qs
    refine (addc_any hq others_lt hU.len2 hb.ok k (hU.sz hkU).1 (hU.sz hkU).2 hkU).mono ?_
    rintro e w1 ⟨rfl, hq1⟩
    refine ⟨_, ⟨_, rfl⟩, rfl, hq1.2, ?_⟩
    obtain ⟨v1, v2, v3, v4, v5, hr⟩ := hb.half hq1.2
    refine (radd_any hr others_lt (bd1 hb.rel.len1 hU.len) (bd1 hb.rel.len2 hU.len) (bd1 hb.rel.len3 hU.len) k hs hno).mono ?_
    rintro e w2 ⟨rfl, hr2⟩
    refine ⟨rfl, hr2.2, _, _, both_of hq1 hr2 (hb.ok.add hkU) (rel_add hb.rel hkU), ?_, ?_⟩
    · rw [(add_du s k).2.1]; omega
    · rw [(add_dues r k).2.2.1]; exact fun x hx => by have := h2 x hx; omega
theorem pair_done (h : Thing own U w i qb rb n) (hU : Keys U) (k : ByteArray) (hs : k.size ≤ maxLen) (hk : noKeyB k = false → k ∈ U) :
    PairOf IsErr own U w i qb rb (n + 1) 77 78 #[.pointer (some ⟨qb, 0, none⟩), .string k] #[.pointer (some ⟨rb, 0, none⟩), .string k] := by
  cases hno : noKeyB k with
  | true =>
    refine (done_no k w _ hs hno).mono ?_
    rintro e w1 ⟨rfl, rfl⟩
    refine ⟨_, ⟨_, rfl⟩, rfl, KeptC.refl _ _, ?_⟩
    refine (rdone_no k _ _ hs hno).mono ?_
    rintro e w2 ⟨rfl, rfl⟩
    exact ⟨rfl, KeptC.refl _ _, h.more.halves (Below.refl _ _) (Below.refl _ _)⟩
  | false =>
    have hkU := hk hno
    obtain ⟨s, r, hb, h1, h2⟩ := h
    obtain ⟨pm, dm, fm, rv, hq⟩ := hb.qs
    refine (donec_any hq others_lt hU.len2 hb.ok k (hU.sz hkU).1 (hU.sz hkU).2 hkU).mono ?_
    rintro e w1 ⟨rfl, hq1⟩
    refine ⟨_, ⟨_, rfl⟩, rfl, hq1.2, ?_⟩
    obtain ⟨v1, v2, v3, v4, v5, hr⟩ := hb.half hq1.2
    refine (rdone_any hr others_lt (bd1 hb.rel.len1 hU.len) (bd1 hb.rel.len2 hU.len) (bd1 hb.rel.len3 hU.len) k hs hno).mono ?_
    rintro e w2 ⟨rfl, hr2⟩
    refine ⟨rfl, hr2.2, _, _, both_of hq1 hr2 (hb.ok.done hkU) (rel_done hb.rel hkU), ?_, ?_⟩
    · rw [done_ck]; omega
    · exact fun x hx => by have := h2 x hx; omega
theorem pair_forget (h : Thing own U w i qb rb n) (hU : Keys U) (k : ByteArray) (hs : k.size ≤ maxLen) (hk : noKeyB k = false → k ∈ U) :
    PairOf IsErr own U w i qb rb (n + 1) 73 74 #[.pointer (some ⟨qb, 0, none⟩), .string k] #[.pointer (some ⟨rb, 0, none⟩), .string k] := by
  cases hno : noKeyB k with
  | true =>
    refine (forget_no k w _ hs hno).mono ?_
    rintro e w1 ⟨rfl, rfl⟩
    refine ⟨_, ⟨_, rfl⟩, rfl, KeptC.refl _ _, ?_⟩
    refine (rforget_no k _ _ hs hno).mono ?_
    rintro e w2 ⟨rfl, rfl⟩
    exact ⟨rfl, KeptC.refl _ _, h.more.halves (Below.refl _ _) (Below.refl _ _)⟩
  | false =>
    have hkU := hk hno
    obtain ⟨s, r, hb, h1, h2⟩ := h
    obtain ⟨pm, dm, fm, rv, hq⟩ := hb.qs
    refine (forgetc_any hq k (hU.sz hkU).1 (hU.sz hkU).2).mono ?_
    rintro e w1 ⟨rfl, hq1⟩
    refine ⟨_, ⟨_, rfl⟩, rfl, hq1.2, ?_⟩
    obtain ⟨v1, v2, v3, v4, v5, hr⟩ := hb.half hq1.2
    refine (rforget_any hr (bd1 hb.rel.len5 hU.len) k hs hno).mono ?_
    rintro e w2 ⟨rfl, hr2⟩
    refine ⟨rfl, hr2.2, _, _, both_of hq1 hr2 hb.ok.forget (rel_forget hb.rel), ?_, ?_⟩
    · show s.ck ≤ _; omega
    · intro x hx
      have := clear_bd h2 (by omega) k.data.toList x hx
      omega
theorem pair_limited (h : Thing own U w i qb rb n) (hn : n ≤ 1000000000000) (hU : Keys U) (k : ByteArray) (hs : k.size ≤ maxLen) (hk : noKeyB k = false → k ∈ U) :
    PairOf IsErr own U w i qb rb (n + 1) 71 72 #[.pointer (some ⟨qb, 0, none⟩), .string k] #[.pointer (some ⟨rb, 0, none⟩), .string k] := by
  cases hno : noKeyB k with
  | true =>
    refine (limited_no k w _ hs hno).mono ?_
    rintro e w1 ⟨rfl, rfl⟩
    refine ⟨_, ⟨_, rfl⟩, rfl, KeptC.refl _ _, ?_⟩
    refine (rlimited_no k _ _ hs hno).mono ?_
    rintro e w2 ⟨rfl, rfl⟩
    exact ⟨rfl, KeptC.refl _ _, h.more.halves (Below.refl _ _) (Below.refl _ _)⟩
  | false =>
    have hkU := hk hno
    obtain ⟨s, r, hb, h1, h2⟩ := h
    obtain ⟨pm, dm, fm, rv, hq⟩ := hb.qs
    refine (limitedc_any hq hU.len2 hb.ok (by omega) k (hU.sz hkU).1 (hU.sz hkU).2 hkU).mono ?_
    rintro e w1 ⟨rfl, hq1⟩
    refine ⟨_, ⟨_, rfl⟩, rfl, hq1.2, ?_⟩
    obtain ⟨v1, v2, v3, v4, v5, hr⟩ := hb.half hq1.2
    have hck := hb.rel.ck
    have hc0 := hb.ok.c0
    refine (rlimited_any hr others_lt (bd1 hb.rel.len4 hU.len) (bd1 hb.rel.len5 hU.len) (fun x hx => ⟨(hb.rel.fmem x.1 x.2 hx).1, by have := h2 x hx; omega⟩) (by omega) (by omega) k hs hno).mono ?_
    rintro e w2 ⟨rfl, hr2⟩
    refine ⟨rfl, hr2.2, _, _, both_of hq1 hr2 (hb.ok.limited hkU) (rel_limited hb.rel hkU), ?_, ?_⟩
    · unfold QS.limited; rw [failed_ck, dueIn_ck]; omega
    · intro x hx
      have := bump_bd h2 (by omega) k.data.toList x hx
      omega
theorem pair_after (h : Thing own U w i qb rb n) (hn : n ≤ 1000000000000) (hU : Keys U) (k : ByteArray) (hs : k.size ≤ maxLen) (hk : noKeyB k = false → k ∈ U) (t : Int) :
    PairOf IsErr own U w i qb rb (n + 1) 69 70 #[.pointer (some ⟨qb, 0, none⟩), .string k, .int .i64 t] #[.pointer (some ⟨rb, 0, none⟩), .string k, .int .i64 t] := by
  cases hno : noKeyB k with
  | true =>
    refine (after_no k t w _ hs hno).mono ?_
    rintro e w1 ⟨rfl, rfl⟩
    refine ⟨_, ⟨_, rfl⟩, rfl, KeptC.refl _ _, ?_⟩
    refine (rafter_no k t _ _ hs hno).mono ?_
    rintro e w2 ⟨rfl, rfl⟩
    exact ⟨rfl, KeptC.refl _ _, h.more.halves (Below.refl _ _) (Below.refl _ _)⟩
  | false =>
    have hkU := hk hno
    obtain ⟨s, r, hb, h1, h2⟩ := h
    obtain ⟨pm, dm, fm, rv, hq⟩ := hb.qs
    refine (afterc_any hq others_lt hU.len2 hb.ok (by omega) k (hU.sz hkU).1 (hU.sz hkU).2 hkU t).mono ?_
    rintro e w1 ⟨rfl, hq1⟩
    refine ⟨_, ⟨_, rfl⟩, rfl, hq1.2, ?_⟩
    obtain ⟨v1, v2, v3, v4, v5, hr⟩ := hb.half hq1.2
    have hck := hb.rel.ck
    have hc0 := hb.ok.c0
    by_cases ht : t ≤ 0
    · have es : s.after k t = s.add k := if_pos ht
      rw [es] at hq1
      refine (rafter_neg hr others_lt (bd1 hb.rel.len1 hU.len) (bd1 hb.rel.len2 hU.len) (bd1 hb.rel.len3 hU.len) k hs hno t ht).mono ?_
      rintro e w2 ⟨rfl, hr2⟩
      refine ⟨rfl, hr2.2, _, _, both_of hq1 hr2 (hb.ok.add hkU) (rel_add hb.rel hkU), ?_, ?_⟩
      · rw [(add_du s k).2.1]; omega
      · rw [(add_dues r k).2.2.1]; exact fun x hx => by have := h2 x hx; omega
    · have es : s.after k t = s.dueIn k (min t 1000) := if_neg ht
      rw [es] at hq1
      refine (rafter_pos hr others_lt (bd1 hb.rel.len4 hU.len) k hs hno t (by omega) (by omega) (by omega)).mono ?_
      rintro e w2 ⟨rfl, hr2⟩
      refine ⟨rfl, hr2.2, _, _, both_of hq1 hr2 (hb.ok.dueIn hkU (by omega)) (rel_dueIn hb.rel hkU _), ?_, ?_⟩
      · rw [dueIn_ck]; omega
      · exact fun x hx => by have := h2 x hx; omega
theorem pair_take (h : Thing own U w i qb rb n) (hU : Keys U) :
    PairOf IsTook own U w i qb rb (n + 1) 75 76 #[.pointer (some ⟨qb, 0, none⟩)] #[.pointer (some ⟨rb, 0, none⟩)] := by
  obtain ⟨s, r, hb, h1, h2⟩ := h
  obtain ⟨pm, dm, fm, rv, hq⟩ := hb.qs
  cases hrow : s.row with
  | nil =>
    refine (take_none hq hrow).mono ?_
    rintro e w1 ⟨rfl, hq1⟩
    refine ⟨_, ⟨_, _, rfl, by unfold maxLen; decide⟩, rfl, hq1.2, ?_⟩
    obtain ⟨v1, v2, v3, v4, v5, hr⟩ := hb.half hq1.2
    refine (rtake_none hr (hb.rel.row.trans hrow)).mono ?_
    rintro e w2 ⟨rfl, hr2⟩
    exact ⟨rfl, hr2.2, _, _, both_of hq1 hr2 hb.ok hb.rel, by omega, fun x hx => by have := h2 x hx; omega⟩
  | cons k t =>
    have hkU : k ∈ U := (hb.ok.pls k 1 ((hb.ok.mem k).1 (by rw [hrow]; simp))).2
    refine (take_some hq others_lt hU.len2 hrow (hU.key k hkU).2 hkU).mono ?_
    rintro e w1 ⟨rfl, hq1⟩
    refine ⟨_, ⟨_, _, rfl, (hU.key k hkU).2⟩, rfl, hq1.2, ?_⟩
    obtain ⟨v1, v2, v3, v4, v5, hr⟩ := hb.half hq1.2
    refine (rtake_some hr others_lt (bd1 hb.rel.len1 hU.len) (bd1 hb.rel.len2 hU.len) (hb.rel.row.trans hrow)).mono ?_
    rintro e w2 ⟨rfl, hr2⟩
    refine ⟨rfl, hr2.2, _, _, both_of hq1 hr2 (hb.ok.take hrow) (rel_take hb.rel hrow), ?_, ?_⟩
    · show s.ck ≤ _; omega
    · exact fun x hx => by have := h2 x hx; omega
theorem fits_of {s : QS} {r : RS} (h : Rel U s r) (hU : Keys U) : Fits r := by
  have := hU.len
  have := h.len1
  have := h.len2
  have := h.len3
  have := h.len4
  refine ⟨by omega, by omega, by omega, fun x hx => hU.key _ (h.dU _ x.2 ((h.dmem x.1 x.2).1 hx))⟩
theorem pair_tick (h : Thing own U w i qb rb n) (hn : n ≤ 1000000000000) (hU : Keys U) :
    PairOf (fun c => c = .tuple #[]) own U w i qb rb (n + 1) 79 80 #[.pointer (some ⟨qb, 0, none⟩)] #[.pointer (some ⟨rb, 0, none⟩)] := by
  obtain ⟨s, r, hb, h1, h2⟩ := h
  obtain ⟨pm, dm, fm, rv, hq⟩ := hb.qs
  refine (tick_any hq others_lt hU.len2 (fun k hk => hU.sz hk) hb.ok (by omega)).mono ?_
  rintro e w1 ⟨rfl, ks, hnx, hord, hq1⟩
  refine ⟨_, rfl, rfl, hq1.2, ?_⟩
  obtain ⟨v1, v2, v3, v4, v5, hr⟩ := hb.half hq1.2
  have hck := hb.rel.ck
  have hc0 := hb.ok.c0
  refine (rtick_any hr others_lt (fits_of hb.rel hU) (by omega) (by omega)).mono ?_
  rintro e w2 ⟨rfl, r', htr, hr2⟩
  refine ⟨rfl, hr2.2, _, _, both_of hq1 hr2 (hb.ok.ticked hnx) (rel_tick hb.rel (fun k t hk => (hb.ok.dus k t hk).1) hnx hord htr), ?_, ?_⟩
  · rw [ticked_ck]; omega
  · rw [tickR_fails htr]
    exact fun x hx => by have := h2 x hx; omega
end

end Go.Proofs.YtdgfjneapialdaaGreatDoor
