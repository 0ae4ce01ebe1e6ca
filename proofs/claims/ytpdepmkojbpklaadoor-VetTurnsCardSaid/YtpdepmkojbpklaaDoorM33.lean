/- Where an instruction goes: the reference's answer. The reference's labels and a step's places: the same. The reference's walk as plain data: one round of it. What the program and the reference tell of a walk is the same. (Plain data.) -/
import Derived.Test.YtpdepmkojbpklaaDoorM27
import Derived.Test.YtpdepmkojbpklaaDoorM32
/- Where an instruction goes: the reference's answer. -/
namespace Go.Proofs.YtpdepmkojbpklaaDoor
open Go.RowKit

/-- where an instruction goes besides the next one, and whether it goes to the next one -/
def rlab (x : In4) : Int × Bool :=
  if x.op = 4 ∨ x.op = 20 ∨ x.op = 21 then (x.a, false)
  else if x.op = 5 ∨ x.op = 6 ∨ x.op = 7 ∨ x.op = 8 then (x.c, true)
  else if x.op = 18 then (x.b, true)
  else if x.op = 22 ∨ x.op = 24 then (x.a, true)
  else if x.op = 15 ∨ x.op = 14 ∨ x.op = 26 ∨ x.op = 27 then (-1, false)
  else (-1, true)

set_option maxRecDepth 100000 in
set_option maxHeartbeats 4000000 in
theorem rlabels_any (x : In4) (w : World) : Calls Tryd.prog 47 #[.agg #[.int .i64 x.op, .int .i64 x.a, .int .i64 x.b, .int .i64 x.c]] w fun e w' => e = .returned (.tuple #[.int .i64 (rlab x).1, .bool (rlab x).2]) ∧ Kp (fun _ => False) w w' := by
  obtain ⟨op, a, b, c⟩ := x
  obtain ⟨w1, hw1⟩ : ∃ w1, w.alloc (.cells #[.int .i64 op, .int .i64 a, .int .i64 b, .int .i64 c] 29) = w1 := ⟨_, rfl⟩
  have hk1 : Kp (fun _ => False) w w1 := by rw [← hw1]; exact (Kp.refl _ w).alloc _
  have hb : w1.heap[w.heap.size]? = some (.cells #[.int .i64 op, .int .i64 a, .int .i64 b, .int .i64 c] 29 (0, 0)) := by rw [← hw1]; exact heap_alloc_new w _
  have y0 : w1.cell? ⟨w.heap.size, 0, none⟩ = some (.int .i64 op) := by rw [cell_of_row w1 _ 0 _ _ _ hb]; rfl
  have y1 : w1.cell? ⟨w.heap.size, 1, none⟩ = some (.int .i64 a) := by rw [cell_of_row w1 _ 1 _ _ _ hb]; rfl
  have y2 : w1.cell? ⟨w.heap.size, 2, none⟩ = some (.int .i64 b) := by rw [cell_of_row w1 _ 2 _ _ _ hb]; rfl
  have y3 : w1.cell? ⟨w.heap.size, 3, none⟩ = some (.int .i64 c) := by rw [cell_of_row w1 _ 3 _ _ _ hb]; rfl
  have H := Lib.hid hk1
  clear hk1 hb
  by_cases h1 : op = 4 ∨ op = 20 ∨ op = 21
  · have hv : rlab ⟨op, a, b, c⟩ = (a, false) := by simp only [rlab]; rw [if_pos h1]
    rw [hv]
    rcases h1 with rfl | rfl | rfl
    all_goals
      go_enter Tryd.func47, Tryd.ntmps47
      go_wp2_with fail
      go_ret2
      exact ⟨rfl, H.out⟩
  by_cases h2 : op = 5 ∨ op = 6 ∨ op = 7 ∨ op = 8
  · have hv : rlab ⟨op, a, b, c⟩ = (c, true) := by simp only [rlab]; rw [if_neg h1, if_pos h2]
    rw [hv]
    clear h1
    rcases h2 with rfl | rfl | rfl | rfl
    all_goals
      go_enter Tryd.func47, Tryd.ntmps47
      go_wp2_with fail
      go_ret2
      exact ⟨rfl, H.out⟩
  by_cases h3 : op = 18
  · have hv : rlab ⟨op, a, b, c⟩ = (b, true) := by simp only [rlab]; rw [if_neg h1, if_neg h2, if_pos h3]
    rw [hv]
    clear h1 h2
    subst h3
    go_enter Tryd.func47, Tryd.ntmps47
    go_wp2_with fail
    go_ret2
    exact ⟨rfl, H.out⟩
  by_cases h4 : op = 22 ∨ op = 24
  · have hv : rlab ⟨op, a, b, c⟩ = (a, true) := by simp only [rlab]; rw [if_neg h1, if_neg h2, if_neg h3, if_pos h4]
    rw [hv]
    clear h1 h2 h3
    rcases h4 with rfl | rfl
    all_goals
      go_enter Tryd.func47, Tryd.ntmps47
      go_wp2_with fail
      go_ret2
      exact ⟨rfl, H.out⟩
  by_cases h5 : op = 15 ∨ op = 14 ∨ op = 26 ∨ op = 27
  · have hv : rlab ⟨op, a, b, c⟩ = (-1, false) := by simp only [rlab]; rw [if_neg h1, if_neg h2, if_neg h3, if_neg h4, if_pos h5]
    rw [hv]
    clear h1 h2 h3 h4
    rcases h5 with rfl | rfl | rfl | rfl
    all_goals
      go_enter Tryd.func47, Tryd.ntmps47
      go_wp2_with fail
      go_ret2
      exact ⟨rfl, H.out⟩
  have hv : rlab ⟨op, a, b, c⟩ = (-1, true) := by simp only [rlab]; rw [if_neg h1, if_neg h2, if_neg h3, if_neg h4, if_neg h5]
  rw [hv]
  have a4 : ¬ op = 4 := fun e => h1 (.inl e)
  have a20 : ¬ op = 20 := fun e => h1 (.inr (.inl e))
  have a21 : ¬ op = 21 := fun e => h1 (.inr (.inr e))
  have a5 : ¬ op = 5 := fun e => h2 (.inl e)
  have a6 : ¬ op = 6 := fun e => h2 (.inr (.inl e))
  have a7 : ¬ op = 7 := fun e => h2 (.inr (.inr (.inl e)))
  have a8 : ¬ op = 8 := fun e => h2 (.inr (.inr (.inr e)))
  have a22 : ¬ op = 22 := fun e => h4 (.inl e)
  have a24 : ¬ op = 24 := fun e => h4 (.inr e)
  have a15 : ¬ op = 15 := fun e => h5 (.inl e)
  have a14 : ¬ op = 14 := fun e => h5 (.inr (.inl e))
  have a26 : ¬ op = 26 := fun e => h5 (.inr (.inr (.inl e)))
  have a27 : ¬ op = 27 := fun e => h5 (.inr (.inr (.inr e)))
  clear h1 h2 h4 h5 hv
  go_enter Tryd.func47, Tryd.ntmps47
  go_wp2_with fail
  go_ret2
  exact ⟨rfl, H.out⟩
end Go.Proofs.YtpdepmkojbpklaaDoor

/- The reference's labels and a step's places: the same. -/
namespace Go.Proofs.YtpdepmkojbpklaaDoor
open Go.RowKit

/-- tries behind an instruction -/
def rbehind (x : In4) (t : Int) : Int := if x.op = 25 then t - 1 else if x.op = 24 then t + 1 else t
theorem vsteps_none {x : In4} {i : Nat} {t : Int} (h0 : 0 ≤ t) : vsteps x i t = none ↔ (x.op = 25 ∧ t < 1) ∨ ((x.op = 15 ∨ x.op = 14) ∧ t ≠ 0) := by
  unfold vsteps
  repeat' split
  all_goals (simp; omega)
theorem vsteps_some {x : In4} {i : Nat} {t : Int} {s : List (Int × Int)} (h : vsteps x i t = some s) (hg : ∀ q u, (q, u) ∈ s → 0 ≤ q) :
    s = (if (rlab x).2 = true then [(((i + 1 : Nat) : Int), rbehind x t)] else []) ++ (if 0 ≤ (rlab x).1 then [((rlab x).1, t)] else []) := by
  obtain ⟨op, a, b, c⟩ := x
  simp only [vsteps] at h
  by_cases c1 : op = 15 ∨ op = 14
  · rw [if_pos c1] at h
    split at h
    · cases h
    · cases h
      rcases c1 with rfl | rfl <;> simp [rlab]
  rw [if_neg c1] at h
  by_cases c2 : op = 26 ∨ op = 27
  · rw [if_pos c2] at h
    cases h
    rcases c2 with rfl | rfl <;> simp [rlab]
  rw [if_neg c2] at h
  by_cases c3 : op = 24
  · rw [if_pos c3] at h
    cases h
    have := hg (vgoal ⟨op, a, b, c⟩) t (by simp)
    subst c3
    simp [vgoal] at this
    simp [rlab, vgoal, rbehind, this]
  rw [if_neg c3] at h
  by_cases c4 : op = 5 ∨ op = 6 ∨ op = 7 ∨ op = 8 ∨ op = 18 ∨ op = 22
  · rw [if_pos c4] at h
    cases h
    have := hg (vgoal ⟨op, a, b, c⟩) t (by simp)
    rcases c4 with rfl | rfl | rfl | rfl | rfl | rfl <;> (simp [vgoal] at this; simp [rlab, vgoal, rbehind, this])
  rw [if_neg c4] at h
  by_cases c5 : op = 4 ∨ op = 20 ∨ op = 21
  · rw [if_pos c5] at h
    cases h
    have := hg (vgoal ⟨op, a, b, c⟩) t (by simp)
    rcases c5 with rfl | rfl | rfl <;> (simp [vgoal] at this; simp [rlab, vgoal, this])
  rw [if_neg c5] at h
  have hr : rlab ⟨op, a, b, c⟩ = (-1, true) := by
    simp only [rlab]
    rw [if_neg c5, if_neg (by omega), if_neg (by omega), if_neg (by omega), if_neg (by omega)]
  rw [hr]
  by_cases c6 : op = 25
  · rw [if_pos c6] at h
    split at h
    · cases h
    · cases h
      subst c6
      simp [rbehind]
  · rw [if_neg c6] at h
    cases h
    simp [rbehind, c3, c6]
end Go.Proofs.YtpdepmkojbpklaaDoor

/- The reference's walk as plain data: one round of it. -/
namespace Go.Proofs.YtpdepmkojbpklaaDoor
open Go.RowKit

theorem LRun.bd {code : List In4} {ts pend : List Int} (h : LRun code ts pend) : ∀ (i : Nat) (u : Int), ts[i]? = some u → u ≠ -1 → 0 ≤ u ∧ u ≤ 8 := by
  induction h with
  | @init ts a b c =>
    intro i u e hu
    have hi := (List.getElem?_eq_some_iff.1 e).1
    by_cases h0 : i = 0
    · subst h0
      rw [b] at e
      have := Option.some.inj e
      omega
    · rw [c i (by omega) (by omega)] at e
      exact absurd (Option.some.inj e).symm hu
  | @step ts pend pend1 ts' pend' p t x s hr a b c d e f g ih =>
    intro i u e1 hu
    rcases g.new i u e1 hu with e2 | e2
    · exact ih i u e2 hu
    · obtain ⟨q', e3, e4, e5⟩ := g.got _ _ e2
      have htm : t ≠ -1 := fun e6 => hr.st.pen p ((a _).2 (.inl rfl)) (by rw [d, e6])
      exact ⟨vsteps_pos f (ih p t d htm).1 _ _ e2, e5⟩
/-- how many are not done -/
def cf : List Bool → Nat
  | [] => 0
  | x :: l => (if x then 0 else 1) + cf l
theorem cf_set : ∀ {l : List Bool} {i : Nat}, l[i]? = some false → cf (l.set i true) + 1 = cf l
  | x :: l, 0, h => by
    obtain rfl : x = false := by simpa using h
    simp [cf]; omega
  | x :: l, i + 1, h => by
    have := cf_set (l := l) (i := i) (by simpa using h)
    simp only [List.set_cons_succ, cf]; omega
  | [], i, h => by simp at h

/-- what is reached and not done -/
def Pn (ts : List Int) (done : List Bool) (i : Nat) : Prop := (∃ u, ts[i]? = some u ∧ u ≠ -1) ∧ done[i]? = some false
/-- where a step goes -/
def rs (x : In4) (p : Nat) (t : Int) : List (Int × Int) := (if (rlab x).2 = true then [(((p + 1 : Nat) : Int), rbehind x t)] else []) ++ (if 0 ≤ (rlab x).1 then [((rlab x).1, t)] else [])
/-- the chapter's test ahead of a step -/
def rcond (x : In4) (t : Int) : Prop := (x.op = 25 ∧ t < 1) ∨ ((x.op = 15 ∨ x.op = 14) ∧ t ≠ 0)
section
variable {code : List In4} {ts pend : List Int} {done : List Bool} {p : Nat} {t : Int} {x : In4}
theorem RefSt.none (h : RefSt code ts pend done) (ht : ts[p]? = some t) (htm : t ≠ -1) (hd : done[p]? = some false) (hlo : ∀ i : Nat, i < p → ¬ Pn ts done i) (hx : code[p]? = some x) (hc : rcond x t) : LeastBad code p t 14 :=
  h.bad ht htm hd hlo hx (.inl ⟨rfl, (vsteps_none (h.run.bd p t ht htm).1).2 hc⟩)
theorem RefSt.go (h : RefSt code ts pend done) (hlab : LabOk code) (ht : ts[p]? = some t) (htm : t ≠ -1) (hd : done[p]? = some false) (hlo : ∀ i : Nat, i < p → ¬ Pn ts done i) (hx : code[p]? = some x) (hc : ¬ rcond x t) :
    (∀ k, rgo code.length (rs x p t) ts (pend.erase (p : Int)) = .error k → LeastBad code p t k) ∧ (∀ ts2 pend2, rgo code.length (rs x p t) ts (pend.erase (p : Int)) = .ok (ts2, pend2) → RefSt code ts2 pend2 (done.set p true)) := by
  have h0 := (h.run.bd p t ht htm).1
  cases hs : vsteps x p t with
  | none => exact absurd ((vsteps_none h0).1 hs) hc
  | some s =>
    have hq : ∀ q u, (q, u) ∈ s → 0 ≤ q ∧ q ≤ code.length := fun q u hm => hlab p x t s q u hx hs hm
    have he : s = rs x p t := vsteps_some hs fun q u hm => (hq q u hm).1
    have hp := rgo_post (pend := pend.erase (p : Int)) h.run.st.len hs s [] ts (pend.erase (p : Int)) (by simp) (Grows.refl _ _) (fun q u hm => ⟨(hq q u hm).1, (hq q u hm).2, by have := vsteps_pos hs h0 q u hm; omega⟩)
    rw [he] at hp hs
    exact ⟨fun k e => h.bad ht htm hd hlo hx (hp.2 k e), fun ts2 pend2 e => h.next ht htm hd hlo hx hs (hp.1 ts2 pend2 e)⟩
end
/-- the steps of a reckoning -/
theorem rgo_far {n : Nat} {q u : Int} {s : List (Int × Int)} {ts pend : List Int} (h : (n : Int) ≤ q) : rgo n ((q, u) :: s) ts pend = .error 13 := by
  simp only [rgo]; rw [if_pos h]
theorem rgo_bad {n q : Nat} {u : Int} {s : List (Int × Int)} {ts pend : List Int} (h : q < n) (hb : 8 < u ∨ (ts[q]? ≠ some (-1) ∧ ts[q]? ≠ some u)) : rgo n (((q : Nat), u) :: s) ts pend = .error 14 := by
  simp only [rgo, Int.toNat_natCast]; rw [if_neg (by omega), if_pos hb]
theorem rgo_ok {n q : Nat} {u : Int} {s : List (Int × Int)} {ts pend : List Int} (h : q < n) (h8 : u ≤ 8) (hb : ts[q]? = some (-1) ∨ ts[q]? = some u) : ∃ pend', rgo n (((q : Nat), u) :: s) ts pend = rgo n s (ts.set q u) pend' := by
  refine ⟨if ts[q]? = some (-1) then ((q : Nat) : Int) :: pend else pend, ?_⟩
  simp only [rgo, Int.toNat_natCast]; rw [if_neg (by omega), if_neg]
  rintro (e | ⟨e, e2⟩)
  · omega
  · rcases hb with hb | hb
    · exact e hb
    · exact e2 hb
theorem rgo_end {n : Nat} {ts pend : List Int} : rgo n [] ts pend = .ok (ts, pend) := rfl

theorem rs_of {x : In4} {p : Nat} {t lb bh : Int} {nx : Bool} (h1 : rlab x = (lb, nx)) (h2 : rbehind x t = bh) : rs x p t = (if nx = true then [(((p + 1 : Nat) : Int), bh)] else []) ++ (if 0 ≤ lb then [(lb, t)] else []) := by
  unfold rs; rw [h1, h2]
/-- bools in a row of one's own -/
def Br (w : World) (g : Nat) (l : List Bool) : Prop := w.heap[g]? = some (.cells (l.map Value.bool).toArray 4 (0, 0))
section
variable {w w' : World} {g : Nat} {l : List Bool} {F : Nat → Prop}
theorem Br.kp (h : Br w g l) (hk : Kp F w w') (hg : ¬ F g) : Br w' g l := (hk.block g (Array.getElem?_eq_some_iff.1 h).1 hg).trans h
theorem Br.cell (h : Br w g l) {i : Nat} {x : Bool} (hi : l[i]? = some x) : w.cell? ⟨g, i, none⟩ = some (.bool x) ∧ w.frozen? ⟨g, i, none⟩ = false := by
  refine ⟨?_, by unfold Br at h; simp [World.frozen?, h]⟩
  rw [cell_of_row _ _ _ _ _ _ h]
  simp [hi]
theorem Br.set (h : Br w g l) (i : Nat) (x : Bool) : Br (w.setCell ⟨g, i, none⟩ (.bool x)) g (l.set i x) := by
  refine (heap_set_same h _).trans ?_
  congr 2
  simp [List.map_set]
end
end Go.Proofs.YtpdepmkojbpklaaDoor

/- What the program and the reference tell of a walk is the same. (Plain data.) -/
namespace Go.Proofs.YtpdepmkojbpklaaDoor
open Go.RowKit

section
variable {tab : Nat → Int} {nl nf nc : Nat} {sl ar : Int} {x : In4}
theorem vlab_in {v : Int} (h : vopA nl nf nc sl 4 v = none) : 0 ≤ v ∧ v < nc := by
  have h' : vrng v 0 ((nc : Int) - 1) 13 = none := h
  unfold vrng at h'
  split at h'
  · omega
  · cases h'
/-- labels are inside where an instruction is right by its operands -/
theorem rlab_in (h : vinsA tab nl nf nc sl x ar = none) : (rlab x).1 < nc := by
  have hop : 1 ≤ x.op ∧ x.op ≤ 41 := by
    by_cases hop : 1 ≤ x.op ∧ x.op ≤ 41
    · exact hop
    · unfold vinsA at h
      rw [if_pos hop] at h
      cases h
  have h0 : vopA nl nf nc sl (vsh x.op 0) x.a = none := by
    cases e : vopA nl nf nc sl (vsh x.op 0) x.a with
    | none => rfl
    | some k => unfold vinsA at h; rw [if_neg (by simpa using hop), e] at h; cases h
  have h1 : vopA nl nf nc sl (vsh x.op 1) x.b = none := by
    cases e : vopA nl nf nc sl (vsh x.op 1) x.b with
    | none => rfl
    | some k => unfold vinsA at h; rw [if_neg (by simpa using hop), h0] at h; simp only [e] at h; cases h
  have h2 : vopA nl nf nc sl (vsh x.op 2) x.c = none := by
    cases e : vopA nl nf nc sl (vsh x.op 2) x.c with
    | none => rfl
    | some k => unfold vinsA at h; rw [if_neg (by simpa using hop), h0] at h; simp only [h1, e] at h; cases h
  unfold rlab
  repeat' split
  · rename_i e
    rcases e with e | e | e <;> (rw [e] at h0; exact (vlab_in (nl := nl) (nf := nf) (sl := sl) h0).2)
  · rename_i e
    rcases e with e | e | e | e <;> (rw [e] at h2; exact (vlab_in (nl := nl) (nf := nf) (sl := sl) h2).2)
  · rename_i e
    rw [e] at h1; exact (vlab_in (nl := nl) (nf := nf) (sl := sl) h1).2
  · rename_i e
    rcases e with e | e <;> (rw [e] at h0; exact (vlab_in (nl := nl) (nf := nf) (sl := sl) h0).2)
  · simp only; omega
  · simp only; omega
end
section
variable {code : List In4}
/-- the first place at which a walk goes wrong is one only, and its kind -/
theorem bad_one (hlab : LabOk code) (hin : ∀ (i : Nat) (x : In4), code[i]? = some x → (rlab x).1 < code.length) {p q : Nat} {t t2 k k2 : Int} (h : LeastBad code p t k) (h2 : LeastBad code q t2 k2) : p = q ∧ k = k2 := by
  obtain ⟨rfl, rfl, ts, x, -, hx, ht, b1, b2⟩ := run_bad_one h h2
  refine ⟨rfl, frbad_kind (fun s q u hs hm => ?_) b1 b2⟩
  have hs2 := vsteps_some hs fun q u hm => (hlab p x t s q u hx hs hm).1
  rw [hs2] at hm
  have := hin p x hx
  by_cases hn : (rlab x).2 = true
  · rw [if_pos hn] at hm
    simp only [List.singleton_append, List.tail_cons] at hm
    split at hm
    · obtain ⟨rfl, -⟩ : q = (rlab x).1 ∧ u = t := by simpa using hm
      exact this
    · cases hm
  · rw [if_neg hn] at hm
    rw [List.nil_append] at hm
    split at hm <;> simp at hm
end
end Go.Proofs.YtpdepmkojbpklaaDoor
