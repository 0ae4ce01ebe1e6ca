/- Runs of least steps, told apart by nothing: what is reached and not gone on from at each step is one thing only. One step of a walk as a reckoning: place after place, what is set, and what is wrong first. The walk that keeps what is done, as a run of least steps. -/
import Derived.Test.YtpdepmkojbpklaaDoorM15
/- Runs of least steps, told apart by nothing: what is reached and not gone on from at each step is one thing only. -/
namespace Go.Proofs.YtpdepmkojbpklaaDoor
open Go.RowKit

/-- the same places pending -/
def SameP (a b : List Int) : Prop := ∀ y, y ∈ a ↔ y ∈ b

theorem vsteps_fun {x : In4} {i : Nat} {t : Int} {s s' : List (Int × Int)} (h : vsteps x i t = some s) (h' : vsteps x i t = some s') : s = s' := by
  rw [h] at h'
  exact Option.some.inj h'

/-- what a step makes of the tries is one thing only -/
theorem Grows.one {ts pa pb s ta qa tb qb : _} (ha : Grows ts pa s ta qa) (hb : Grows ts pb s tb qb) : ta = tb := by
  apply List.ext_getElem?
  intro i
  by_cases hi : i < ts.length
  · obtain ⟨u, hu⟩ : ∃ u, ta[i]? = some u := ⟨_, List.getElem?_eq_getElem (by rw [ha.len]; exact hi)⟩
    obtain ⟨v, hv⟩ : ∃ v, tb[i]? = some v := ⟨_, List.getElem?_eq_getElem (by rw [hb.len]; exact hi)⟩
    have key : ∀ {p1 p2 q1 q2 t1 t2 : List Int} {u v : Int}, Grows ts p1 s t1 q1 → Grows ts p2 s t2 q2 → t1[i]? = some u → t2[i]? = some v → u ≠ -1 → u = v := by
      intro p1 p2 q1 q2 t1 t2 u v g1 g2 e1 e2 hm
      rcases g1.new i u e1 hm with e | e
      · have := g2.old i u e hm
        rw [e2] at this
        exact (Option.some.inj this).symm
      · obtain ⟨q', e3, e4, -⟩ := g2.got _ _ e
        obtain rfl : i = q' := by omega
        rw [e2] at e4
        exact (Option.some.inj e4).symm
    rw [hu, hv]
    by_cases h1 : u = -1
    · by_cases h2 : v = -1
      · rw [h1, h2]
      · exact congrArg some (key hb ha hv hu h2).symm
    · exact congrArg some (key ha hb hu hv h1)
  · rw [List.getElem?_eq_none (by rw [ha.len]; omega), List.getElem?_eq_none (by rw [hb.len]; omega)]

/-- and so are the places that are pending behind it -/
theorem Grows.same {ts pa pb s t qa qb : _} (ha : Grows ts pa s t qa) (hb : Grows ts pb s t qb) (hp : SameP pa pb) : SameP qa qb := by
  have key : ∀ {p1 p2 q1 q2 : List Int}, Grows ts p1 s t q1 → Grows ts p2 s t q2 → (∀ y, y ∈ p1 → y ∈ p2) → ∀ y, y ∈ q1 → y ∈ q2 := by
    intro p1 p2 q1 q2 g1 g2 h12 y hy
    rcases g1.pen y hy with e | ⟨u, e⟩
    · exact g2.more y (h12 y e)
    · obtain ⟨q', rfl, e1, -⟩ := g1.got _ _ e
      rcases g1.neu q' hy with e2 | e2
      · exact g2.more _ (h12 _ e2)
      · rcases g2.fresh q' u e1 (g1.nm _ _ e) with e3 | e3
        · rw [e2] at e3
          exact absurd (Option.some.inj e3).symm (g1.nm _ _ e)
        · exact e3
  exact fun y => ⟨key ha hb (fun y => (hp y).1) y, key hb ha (fun y => (hp y).2) y⟩

/-- the state of a run: nothing stands twice, and what is pending is reached -/
structure LSt (code : List In4) (ts pend : List Int) : Prop where
  len : ts.length = code.length
  nd : pend.Nodup
  pen : ∀ q : Nat, (q : Int) ∈ pend → ts[q]? ≠ some (-1)
theorem LSt.step {code : List In4} {ts pend pend1 ts' pend' : List Int} {p : Nat} {s : List (Int × Int)} (h : LSt code ts pend) (a : ∀ y, y ∈ pend ↔ y = (p : Int) ∨ y ∈ pend1) (b : pend.length = pend1.length + 1) (g : Grows ts pend1 s ts' pend') : LSt code ts' pend' := by
  have hn := pig_out h.nd a b
  have hp1 : ∀ q : Nat, (q : Int) ∈ pend1 → ts[q]? ≠ some (-1) := fun q e => h.pen q ((a _).2 (.inr e))
  refine ⟨by rw [g.len]; exact h.len, g.nd hp1 hn.1, fun q e e2 => ?_⟩
  rcases g.pen _ e with e3 | ⟨u, e3⟩
  · by_cases hq : q < ts.length
    · obtain ⟨v, hv⟩ : ∃ v, ts[q]? = some v := ⟨_, List.getElem?_eq_getElem hq⟩
      have hm : v ≠ -1 := fun e4 => hp1 q e3 (by rw [hv, e4])
      have := g.old q v hv hm
      rw [e2] at this
      exact hm (Option.some.inj this).symm
    · rw [List.getElem?_eq_none (by rw [g.len]; omega)] at e2
      cases e2
  · obtain ⟨q2, e4, e5, -⟩ := g.got _ _ e3
    obtain rfl : q = q2 := by omega
    rw [e2] at e5
    exact g.nm _ _ e3 (Option.some.inj e5).symm
theorem LRun.st {code : List In4} {ts pend : List Int} (h : LRun code ts pend) : LSt code ts pend := by
  induction h with
  | @init ts a b c => exact ⟨a, by simp, fun q e => by
      obtain rfl : q = 0 := by have : (q : Int) = 0 := by simpa using e
                               omega
      rw [b]; simp⟩
  | @step _ _ _ _ _ p _ _ _ _ a b _ _ _ _ g ih => exact ih.step (p := p) a b g
/-- the least place of two lists of the same places is the same -/
theorem least_same {pa pb pa1 pb1 : List Int} {p q : Nat} (hs : SameP pa pb) (a : ∀ y, y ∈ pa ↔ y = (p : Int) ∨ y ∈ pa1) (la : ∀ y, y ∈ pa1 → (p : Int) ≤ y) (b : ∀ y, y ∈ pb ↔ y = (q : Int) ∨ y ∈ pb1) (lb : ∀ y, y ∈ pb1 → (q : Int) ≤ y) : p = q := by
  have h1 : (q : Int) ≤ p := by
    rcases (b p).1 ((hs p).1 ((a p).2 (.inl rfl))) with e | e
    · omega
    · exact lb _ e
  have h2 : (p : Int) ≤ q := by
    rcases (a q).1 ((hs q).2 ((b q).2 (.inl rfl))) with e | e
    · omega
    · exact la _ e
  omega
theorem rest_same {pa pb pa1 pb1 : List Int} {p : Nat} (hs : SameP pa pb) (na : pa.Nodup) (nb : pb.Nodup) (a : ∀ y, y ∈ pa ↔ y = (p : Int) ∨ y ∈ pa1) (ca : pa.length = pa1.length + 1) (b : ∀ y, y ∈ pb ↔ y = (p : Int) ∨ y ∈ pb1) (cb : pb.length = pb1.length + 1) : SameP pa1 pb1 := by
  have ha := (pig_out na a ca).2
  have hb := (pig_out nb b cb).2
  intro y
  constructor
  · intro hy
    rcases (b y).1 ((hs y).1 ((a y).2 (.inr hy))) with e | e
    · exact absurd hy (by rw [e]; exact ha)
    · exact e
  · intro hy
    rcases (a y).1 ((hs y).2 ((b y).2 (.inr hy))) with e | e
    · exact absurd hy (by rw [e]; exact hb)
    · exact e

/-- of as many least steps there is one run only -/
inductive LRunN (code : List In4) : Nat → List Int → List Int → Prop
  | init {ts : List Int} : ts.length = code.length → ts[0]? = some 0 → (∀ i, 1 ≤ i → i < code.length → ts[i]? = some (-1)) → LRunN code 0 ts [0]
  | step {n : Nat} {ts pend pend1 ts' pend' : List Int} {p : Nat} {t : Int} {x : In4} {s : List (Int × Int)} : LRunN code n ts pend → (∀ y, y ∈ pend ↔ y = (p : Int) ∨ y ∈ pend1) → pend.length = pend1.length + 1 → (∀ y, y ∈ pend1 → (p : Int) ≤ y) → ts[p]? = some t → code[p]? = some x → vsteps x p t = some s → Grows ts pend1 s ts' pend' → LRunN code (n + 1) ts' pend'
theorem LRun.count {code : List In4} {ts pend : List Int} (h : LRun code ts pend) : ∃ n, LRunN code n ts pend := by
  induction h with
  | init a b c => exact ⟨0, .init a b c⟩
  | step _ a b c d e f g ih =>
    obtain ⟨n, ih⟩ := ih
    exact ⟨n + 1, .step ih a b c d e f g⟩
theorem LRunN.run {code : List In4} {n : Nat} {ts pend : List Int} (h : LRunN code n ts pend) : LRun code ts pend := by
  induction h with
  | init a b c => exact .init a b c
  | step _ a b c d e f g ih => exact .step ih a b c d e f g
theorem LRunN.one {code : List In4} {n : Nat} {ts pend : List Int} (h : LRunN code n ts pend) : ∀ {ts2 pend2 : List Int}, LRunN code n ts2 pend2 → ts = ts2 ∧ SameP pend pend2 := by
  induction h with
  | @init ts a b c =>
    intro ts2 pend2 h2
    cases h2 with
    | init a2 b2 c2 =>
      refine ⟨List.ext_getElem? fun i => ?_, fun y => .rfl⟩
      by_cases h0 : i = 0
      · subst h0; rw [b, b2]
      · by_cases hi : i < code.length
        · rw [c i (by omega) hi, c2 i (by omega) hi]
        · rw [List.getElem?_eq_none (by omega), List.getElem?_eq_none (by omega)]
  | @step n ts pend pend1 ts' pend' p t x s hr a b c d e f g ih =>
    intro ts2 pend2 h2
    cases h2 with
    | @step _ us vend vend1 _ _ q t2 x2 s2 hr2 a2 b2 c2 d2 e2 f2 g2 =>
      obtain ⟨rfl, hsame⟩ := ih hr2
      obtain rfl := least_same hsame a c a2 c2
      rw [d] at d2
      obtain rfl := Option.some.inj d2
      rw [e] at e2
      obtain rfl := Option.some.inj e2
      obtain rfl := vsteps_fun f f2
      have hrest := rest_same hsame hr.run.st.nd hr2.run.st.nd a b a2 b2
      obtain rfl := g.one g2
      exact ⟨rfl, g.same g2 hrest⟩
/-- where a step goes well, nothing is wrong -/
theorem Grows.good {code : List In4} {ts pend ts' pend' : List Int} {p : Nat} {t k : Int} {x : In4} {s : List (Int × Int)} (hl : ts.length = code.length) (h : vsteps x p t = some s) (g : Grows ts pend s ts' pend') : ¬ FrBad code ts x p t k := by
  rintro (⟨-, e⟩ | ⟨s2, q, u, e1, e2, e3, -⟩)
  · rw [h] at e; cases e
  · obtain rfl := vsteps_fun h e1
    obtain ⟨q', rfl, e4, e5⟩ := g.got _ _ e2
    have hq := (List.getElem?_eq_some_iff.1 e4).1
    rw [g.len] at hq
    rcases e3 with ⟨e6, -⟩ | ⟨-, -, e6 | ⟨u', q2, e7, e8, e9, e10⟩⟩
    · omega
    · omega
    · obtain rfl : q' = q2 := by omega
      rcases e10 with e | e
      · have := g.old _ _ e e9
        rw [e4] at this
        exact e8 (Option.some.inj this).symm
      · obtain ⟨q3, e11, e12, -⟩ := g.got _ _ e
        obtain rfl : q' = q3 := by omega
        rw [e4] at e12
        exact e8 (Option.some.inj e12).symm
/-- a longer run has been at each shorter one's end, and went on -/
theorem LRunN.before {code : List In4} {m : Nat} {ts pend : List Int} (h : LRunN code m ts pend) : ∀ n, n < m → ∃ (ts1 pa pa1 ts2 pb : List Int) (p : Nat) (t : Int) (x : In4) (s : List (Int × Int)), LRunN code n ts1 pa ∧ (∀ y, y ∈ pa ↔ y = (p : Int) ∨ y ∈ pa1) ∧ (∀ y, y ∈ pa1 → (p : Int) ≤ y) ∧ ts1[p]? = some t ∧ code[p]? = some x ∧ vsteps x p t = some s ∧ Grows ts1 pa1 s ts2 pb := by
  induction h with
  | init _ _ _ => intro n hn; omega
  | @step m ts pend pend1 ts' pend' p t x s hr a b c d e f g ih =>
    intro n hn
    by_cases hm : n = m
    · subst hm
      exact ⟨ts, pend, pend1, ts', pend', p, t, x, s, hr, a, c, d, e, f, g⟩
    · exact ih n (by omega)
/-- two runs that are at their ends are the same; a run at its end was nowhere wrong; two that are wrong are wrong at the same place -/
theorem run_end_one {code : List In4} {ts ts2 : List Int} (h : LRun code ts []) (h2 : LRun code ts2 []) : ts = ts2 := by
  obtain ⟨n, hn⟩ := h.count
  obtain ⟨m, hm⟩ := h2.count
  rcases Nat.lt_trichotomy n m with e | e | e
  · obtain ⟨_, pa, _, _, _, p, _, _, _, b1, b2, _⟩ := hm.before n e
    have := (hn.one b1).2 p
    exact absurd (this.2 ((b2 _).2 (.inl rfl))) (by simp)
  · subst e
    exact (hn.one hm).1
  · obtain ⟨_, pa, _, _, _, p, _, _, _, b1, b2, _⟩ := hn.before m e
    have := (hm.one b1).2 p
    exact absurd (this.2 ((b2 _).2 (.inl rfl))) (by simp)
theorem run_end_bad {code : List In4} {ts : List Int} {p : Nat} {t k : Int} (h : LRun code ts []) (h2 : LeastBad code p t k) : False := by
  obtain ⟨ts1, pa, pa1, x, c1, c2, -, c3, c4, c5, c6⟩ := h2
  obtain ⟨n, hn⟩ := h.count
  obtain ⟨m, hm⟩ := c1.count
  rcases Nat.lt_trichotomy n m with e | e | e
  · obtain ⟨_, _, _, _, _, q, _, _, _, b1, b2, _⟩ := hm.before n e
    exact absurd (((hn.one b1).2 q).2 ((b2 _).2 (.inl rfl))) (by simp)
  · subst e
    exact absurd (((hn.one hm).2 p).2 ((c2 _).2 (.inl rfl))) (by simp)
  · obtain ⟨us, pb, pb1, _, _, q, t2, x2, s, b1, b2, b3, b4, b5, b6, b7⟩ := hn.before m e
    obtain ⟨rfl, hs⟩ := hm.one b1
    obtain rfl := least_same hs c2 c3 b2 b3
    rw [c4] at b4
    obtain rfl := Option.some.inj b4
    rw [c5] at b5
    obtain rfl := Option.some.inj b5
    exact b7.good c1.st.len b6 c6
theorem run_bad_one {code : List In4} {p q : Nat} {t t2 k k2 : Int} (h : LeastBad code p t k) (h2 : LeastBad code q t2 k2) : p = q ∧ t = t2 ∧ ∃ ts x, ts.length = code.length ∧ code[p]? = some x ∧ ts[p]? = some t ∧ FrBad code ts x p t k ∧ FrBad code ts x p t k2 := by
  obtain ⟨ts1, pa, pa1, x, c1, c2, -, c3, c4, c5, c6⟩ := h
  obtain ⟨us1, pb, pb1, y, d1, d2, -, d3, d4, d5, d6⟩ := h2
  obtain ⟨n, hn⟩ := c1.count
  obtain ⟨m, hm⟩ := d1.count
  rcases Nat.lt_trichotomy n m with e | e | e
  · obtain ⟨us, pb, pb1, _, _, q2, t2, x2, s, b1, b2, b3, b4, b5, b6, b7⟩ := hm.before n e
    obtain ⟨rfl, hs⟩ := hn.one b1
    obtain rfl := least_same hs c2 c3 b2 b3
    rw [c4] at b4
    obtain rfl := Option.some.inj b4
    rw [c5] at b5
    obtain rfl := Option.some.inj b5
    exact absurd c6 (b7.good c1.st.len b6)
  · subst e
    obtain ⟨rfl, hs⟩ := hn.one hm
    obtain rfl := least_same hs c2 c3 d2 d3
    rw [c4] at d4
    obtain rfl := Option.some.inj d4
    rw [c5] at d5
    obtain rfl := Option.some.inj d5
    exact ⟨rfl, rfl, ts1, x, c1.st.len, c5, c4, c6, d6⟩
  · obtain ⟨us, pb, pb1, _, _, q2, t2, x2, s, b1, b2, b3, b4, b5, b6, b7⟩ := hn.before m e
    obtain ⟨rfl, hs⟩ := hm.one b1
    obtain rfl := least_same hs d2 d3 b2 b3
    rw [d4] at b4
    obtain rfl := Option.some.inj b4
    rw [d5] at b5
    obtain rfl := Option.some.inj b5
    exact absurd d6 (b7.good d1.st.len b6)
end Go.Proofs.YtpdepmkojbpklaaDoor

/- One step of a walk as a reckoning: place after place, what is set, and what is wrong first. -/
namespace Go.Proofs.YtpdepmkojbpklaaDoor
open Go.RowKit

/-- the places that are reached, one after the other; or the kind of what is wrong -/
def rgo (n : Nat) : List (Int × Int) → List Int → List Int → Except Int (List Int × List Int)
  | [], ts, pend => .ok (ts, pend)
  | (q, u) :: s, ts, pend =>
    if (n : Int) ≤ q then .error 13
    else if 8 < u ∨ (ts[q.toNat]? ≠ some (-1) ∧ ts[q.toNat]? ≠ some u) then .error 14
    else rgo n s (ts.set q.toNat u) (if ts[q.toNat]? = some (-1) then q :: pend else pend)

theorem rgo_post {code : List In4} {ts pend : List Int} {x : In4} {i : Nat} {t : Int} {s : List (Int × Int)} (hl : ts.length = code.length) (hs : vsteps x i t = some s) : ∀ (r s0 : List (Int × Int)) (ts1 pend1 : List Int), s = s0 ++ r → Grows ts pend s0 ts1 pend1 → (∀ q u, (q, u) ∈ r → 0 ≤ q ∧ q ≤ code.length ∧ u ≠ -1) →
    (∀ ts2 pend2, rgo code.length r ts1 pend1 = .ok (ts2, pend2) → Grows ts pend s ts2 pend2) ∧ (∀ k, rgo code.length r ts1 pend1 = .error k → FrBad code ts x i t k) := by
  intro r
  induction r with
  | nil =>
    intro s0 ts1 pend1 e g _
    refine ⟨fun ts2 pend2 h => ?_, fun k h => (by cases h)⟩
    cases h
    rw [e]
    simpa using g
  | cons y r ih =>
    obtain ⟨q, u⟩ := y
    intro s0 ts1 pend1 e g hr
    obtain ⟨h0, hn, hu⟩ := hr q u (by simp)
    obtain ⟨q', rfl⟩ : ∃ q' : Nat, q = q' := ⟨q.toNat, by omega⟩
    have hpre : ∀ q2 u2, (q2, u2) ∈ s0 → q2 < (code.length : Int) := fun q2 u2 hm => by
      obtain ⟨q3, e5, e6, -⟩ := g.got q2 u2 hm
      have h5 := (List.getElem?_eq_some_iff.1 e6).1
      rw [g.len, hl] at h5
      omega
    have hmem : ((q' : Int), u) ∈ s := by rw [e]; simp
    simp only [rgo, Int.toNat_natCast]
    by_cases hq : (code.length : Int) ≤ q'
    · rw [if_pos hq]
      refine ⟨fun ts2 pend2 h => (by cases h), fun k h => ?_⟩
      cases h
      exact .inr ⟨s, q', u, hs, hmem, .inl ⟨by omega, rfl⟩, s0, r, e, hpre⟩
    · rw [if_neg hq]
      have hql : q' < ts1.length := by rw [g.len, hl]; omega
      obtain ⟨v, hv⟩ : ∃ v, ts1[q']? = some v := ⟨_, List.getElem?_eq_getElem hql⟩
      by_cases hb : 8 < u ∨ (ts1[q']? ≠ some (-1) ∧ ts1[q']? ≠ some u)
      · rw [if_pos hb]
        refine ⟨fun ts2 pend2 h => (by cases h), fun k h => ?_⟩
        cases h
        refine .inr ⟨s, q', u, hs, hmem, .inr ⟨by omega, rfl, hb.imp (fun e => e) fun ⟨h1, h2⟩ => ?_⟩, s0, r, e, hpre⟩
        rw [hv] at h1 h2
        have hm : v ≠ -1 := fun e2 => h1 (by rw [e2])
        exact ⟨v, q', rfl, fun e2 => h2 (by rw [e2]), hm, (g.new q' v hv hm).imp (fun e => e) fun e2 => by rw [e]; exact List.mem_append_left _ e2⟩
      · rw [if_neg hb]
        have h8 : u ≤ 8 := by
          by_cases h : 8 < u
          · exact absurd (.inl h) hb
          · omega
        refine ih (s0 ++ [((q' : Int), u)]) _ _ (by rw [e]; simp) (g.step hu h8 ?_) fun q2 u2 hm => hr q2 u2 (by simp [hm])
        by_cases hm : ts1[q']? = some (-1)
        · rw [if_pos hm]
          exact .inr ⟨hm, rfl, fun y => by simp, by simp⟩
        · rw [if_neg hm]
          have hvu : ts1[q']? = some u := by
            by_cases h : ts1[q']? = some u
            · exact h
            · exact absurd (.inr ⟨hm, h⟩) hb
          refine .inl ⟨hvu, ?_, rfl⟩
          apply List.ext_getElem?
          intro j
          by_cases hj : q' = j
          · subst hj
            rw [List.getElem?_set_self hql, hvu]
          · rw [List.getElem?_set_ne hj]
/-- what is wrong at a place is of one kind only, where labels are inside -/
theorem frbad_kind {code : List In4} {ts : List Int} {x : In4} {i : Nat} {t k k2 : Int} (hin : ∀ s q u, vsteps x i t = some s → (q, u) ∈ s.tail → q < (code.length : Int)) (h : FrBad code ts x i t k) (h2 : FrBad code ts x i t k2) : k = k2 := by
  have key : ∀ {k k2 : Int}, FrBad code ts x i t k → FrBad code ts x i t k2 → k = 13 → k2 = 14 → False := by
    intro k k2 h h2 e13 e14
    rcases h with ⟨e, -⟩ | ⟨s, q, u, a1, -, a3, s0, r, a4, -⟩
    · omega
    · have hq : q = (code.length : Int) := by rcases a3 with ⟨e, -⟩ | ⟨-, e, -⟩ <;> omega
      subst hq
      have hs0 : s0 = [] := by
        cases s0 with
        | nil => rfl
        | cons y s0 =>
          have := hin s (code.length : Int) u a1 (by rw [a4]; simp)
          omega
      subst hs0
      rcases h2 with ⟨-, e⟩ | ⟨s2, q2, u2, b1, -, b3, s02, r2, b4, b5⟩
      · rw [a1] at e; cases e
      · obtain rfl := vsteps_fun a1 b1
        have hq2 : q2 < (code.length : Int) := by rcases b3 with ⟨-, e⟩ | ⟨e, -⟩ <;> omega
        cases s02 with
        | nil =>
          rw [a4] at b4
          simp at b4
          omega
        | cons y s02 =>
          rw [a4] at b4
          simp at b4
          have := b5 (code.length : Int) u (by rw [← b4.1]; simp)
          omega
  have hk : ∀ {k : Int}, FrBad code ts x i t k → k = 13 ∨ k = 14 := by
    rintro k (⟨e, -⟩ | ⟨_, _, _, -, -, e, -⟩)
    · exact .inr e
    · exact e.imp (fun e => e.2) fun e => e.2.1
  rcases hk h with e | e <;> rcases hk h2 with e2 | e2
  · omega
  · exact (key h h2 e e2).elim
  · exact (key h2 h e2 e).elim
  · omega
end Go.Proofs.YtpdepmkojbpklaaDoor

/- The walk that keeps what is done, as a run of least steps. -/
namespace Go.Proofs.YtpdepmkojbpklaaDoor
open Go.RowKit

theorem LRun.nat {code : List In4} {ts pend : List Int} (h : LRun code ts pend) : ∀ y, y ∈ pend → ∃ q : Nat, y = q := by
  induction h with
  | init _ _ _ => intro y hy; exact ⟨0, by simpa using hy⟩
  | step _ a _ _ _ _ _ g ih =>
    intro y hy
    rcases g.pen y hy with e | ⟨u, e⟩
    · exact ih y ((a y).2 (.inr e))
    · obtain ⟨q, e1, -⟩ := g.got _ _ e
      exact ⟨q, e1⟩
/-- the tries, and what is done -/
structure RefSt (code : List In4) (ts pend : List Int) (done : List Bool) : Prop where
  run : LRun code ts pend
  dl : done.length = code.length
  inv : ∀ i : Nat, (i : Int) ∈ pend ↔ (∃ u, ts[i]? = some u ∧ u ≠ -1) ∧ done[i]? = some false
  dn : ∀ i : Nat, done[i]? = some true → ts[i]? ≠ some (-1)
theorem RefSt.start {code : List In4} {ts : List Int} (hn : 1 ≤ code.length) (a : ts.length = code.length) (b : ts[0]? = some 0) (c : ∀ i, 1 ≤ i → i < code.length → ts[i]? = some (-1)) : RefSt code ts [0] (List.replicate code.length false) := by
  refine ⟨.init a b c, by simp, fun i => ⟨fun e => ?_, fun ⟨⟨u, e1, e2⟩, _⟩ => ?_⟩, fun i e => ?_⟩
  · obtain rfl : i = 0 := by have : (i : Int) = 0 := by simpa using e
                             omega
    exact ⟨⟨0, b, by omega⟩, by rw [List.getElem?_replicate, if_pos (by omega)]⟩
  · by_cases hi : i = 0
    · subst hi; simp
    · have hl := (List.getElem?_eq_some_iff.1 e1).1
      rw [c i (by omega) (by omega)] at e1
      exact absurd (Option.some.inj e1).symm e2
  · rw [List.getElem?_replicate] at e
    split at e <;> cases e
/-- all is done: the run is at its end -/
theorem RefSt.finished {code : List In4} {ts pend : List Int} {done : List Bool} (h : RefSt code ts pend done) (hno : ∀ i : Nat, i < code.length → ¬ ((∃ u, ts[i]? = some u ∧ u ≠ -1) ∧ done[i]? = some false)) : LRun code ts [] := by
  have : pend = [] := by
    cases hp : pend with
    | nil => rfl
    | cons y l =>
      obtain ⟨q, hq⟩ := h.run.nat y (by rw [hp]; simp)
      have hm := (h.inv q).1 (by rw [hp, hq]; simp)
      have hl := (List.getElem?_eq_some_iff.1 hm.2).1
      exact absurd hm (hno q (by rw [← h.dl]; exact hl))
  rw [← this]
  exact h.run
/-- the least place is gone on from -/
theorem RefSt.least {code : List In4} {ts pend : List Int} {done : List Bool} (h : RefSt code ts pend done) {p : Nat} {t : Int} (ht : ts[p]? = some t) (htm : t ≠ -1) (hd : done[p]? = some false) (hlo : ∀ i : Nat, i < p → ¬ ((∃ u, ts[i]? = some u ∧ u ≠ -1) ∧ done[i]? = some false)) :
    (∀ y, y ∈ pend ↔ y = (p : Int) ∨ y ∈ pend.erase (p : Int)) ∧ pend.length = (pend.erase (p : Int)).length + 1 ∧ (∀ y, y ∈ pend.erase (p : Int) → (p : Int) ≤ y) := by
  have hm : (p : Int) ∈ pend := (h.inv p).2 ⟨⟨t, ht, htm⟩, hd⟩
  refine ⟨fun y => ⟨fun e => ?_, fun e => ?_⟩, ?_, fun y e => ?_⟩
  · by_cases hy : y = p
    · exact .inl hy
    · exact .inr ((List.mem_erase_of_ne hy).2 e)
  · rcases e with e | e
    · rw [e]; exact hm
    · exact List.mem_of_mem_erase e
  · have := List.length_pos_of_mem hm
    rw [List.length_erase_of_mem hm]; omega
  · obtain ⟨q, rfl⟩ := h.run.nat y (List.mem_of_mem_erase e)
    by_cases hq : q < p
    · exact absurd ((h.inv q).1 (List.mem_of_mem_erase e)) (hlo q hq)
    · omega
theorem RefSt.bad {code : List In4} {ts pend : List Int} {done : List Bool} (h : RefSt code ts pend done) {p : Nat} {t k : Int} {x : In4} (ht : ts[p]? = some t) (htm : t ≠ -1) (hd : done[p]? = some false) (hlo : ∀ i : Nat, i < p → ¬ ((∃ u, ts[i]? = some u ∧ u ≠ -1) ∧ done[i]? = some false))
    (hx : code[p]? = some x) (hb : FrBad code ts x p t k) : LeastBad code p t k := by
  obtain ⟨a, b, c⟩ := h.least ht htm hd hlo
  exact ⟨ts, pend, _, x, h.run, a, b, c, ht, hx, hb⟩
theorem RefSt.next {code : List In4} {ts pend : List Int} {done : List Bool} (h : RefSt code ts pend done) {p : Nat} {t : Int} {x : In4} {s : List (Int × Int)} {ts' pend' : List Int} (ht : ts[p]? = some t) (htm : t ≠ -1) (hd : done[p]? = some false) (hlo : ∀ i : Nat, i < p → ¬ ((∃ u, ts[i]? = some u ∧ u ≠ -1) ∧ done[i]? = some false))
    (hx : code[p]? = some x) (hs : vsteps x p t = some s) (g : Grows ts (pend.erase (p : Int)) s ts' pend') : RefSt code ts' pend' (done.set p true) := by
  obtain ⟨a, b, c⟩ := h.least ht htm hd hlo
  have hrun := LRun.step h.run a b c ht hx hs g
  have hpo := (pig_out h.run.st.nd a b).2
  have hpl := (List.getElem?_eq_some_iff.1 hd).1
  refine ⟨hrun, by rw [List.length_set]; exact h.dl, fun i => ⟨fun e => ?_, fun ⟨⟨u, e1, e2⟩, e3⟩ => ?_⟩, fun i e => ?_⟩
  · have hne := hrun.st.pen i e
    have hi : i < code.length := by
      rcases g.pen _ e with e4 | ⟨u, e4⟩
      · rw [← h.dl]; exact (List.getElem?_eq_some_iff.1 ((h.inv i).1 ((a _).2 (.inr e4))).2).1
      · obtain ⟨q, e5, e6, -⟩ := g.got _ _ e4
        obtain rfl : i = q := by omega
        rw [← hrun.st.len]; exact (List.getElem?_eq_some_iff.1 e6).1
    obtain ⟨u, hu⟩ : ∃ u, ts'[i]? = some u := ⟨_, List.getElem?_eq_getElem (by rw [hrun.st.len]; exact hi)⟩
    refine ⟨⟨u, hu, fun e4 => hne (by rw [hu, e4])⟩, ?_⟩
    rcases g.neu i e with e4 | e4
    · have hip : p ≠ i := fun e5 => hpo (by subst e5; exact e4)
      rw [List.getElem?_set_ne hip]
      exact ((h.inv i).1 ((a _).2 (.inr e4))).2
    · have hip : p ≠ i := fun e5 => by
        subst e5
        rw [ht] at e4
        exact htm (Option.some.inj e4)
      rw [List.getElem?_set_ne hip]
      obtain ⟨v, hv⟩ : ∃ v, done[i]? = some v := ⟨_, List.getElem?_eq_getElem (by rw [h.dl]; exact hi)⟩
      cases v with
      | false => exact hv
      | true => exact absurd e4 (h.dn i hv)
  · have hip : p ≠ i := fun e5 => by
      subst e5
      rw [List.getElem?_set_self hpl] at e3
      cases e3
    rw [List.getElem?_set_ne hip] at e3
    rcases g.fresh i u e1 e2 with e4 | e4
    · rcases (a i).1 ((h.inv i).2 ⟨⟨u, e4, e2⟩, e3⟩) with e5 | e5
      · omega
      · exact g.more _ e5
    · exact e4
  · by_cases hip : p = i
    · subst hip
      rw [g.old p t ht htm]
      exact fun e5 => htm (Option.some.inj e5)
    · rw [List.getElem?_set_ne hip] at e
      have h1 := h.dn i e
      have hi := (List.getElem?_eq_some_iff.1 e).1
      rw [h.dl] at hi
      obtain ⟨v, hv⟩ : ∃ v, ts[i]? = some v := ⟨_, List.getElem?_eq_getElem (by rw [h.run.st.len]; exact hi)⟩
      have hm : v ≠ -1 := fun e5 => h1 (by rw [hv, e5])
      rw [g.old i v hv hm]
      exact fun e5 => hm (Option.some.inj e5)
end Go.Proofs.YtpdepmkojbpklaaDoor
