/- One for one, within what may be: what a Down leaves; booleans of the statement's own; all that it holds. -/
import Derived.Test.YtbdogiblndlimaaSuUse
namespace Go.Proofs.Ytbdogiblndlimaa
open Go.RowKit
set_option linter.unusedVariables false

theorem setU_back {cs : List Kd} {c : Nat} {k : Kd} (hk : cs[c]? = some k) (hu : k.u = true) : setU (setU cs c false) c true = cs := by
  apply List.ext_getElem?
  intro j
  rw [setU_get, setU_get]
  by_cases e : c = j
  · subst e
    rw [hk]
    obtain ⟨r, t, u⟩ := k
    simp only at hu
    subst hu
    simp
  · cases cs[j]? with
    | none => rfl
    | some x => simp [e]
theorem once_down {S : Su} {c now : Nat} {k : Kd} {normal : Bool} (h1 : S.sg = 1) (h2 : S.st = 1) (hk : S.cs[c]? = some k) (hu : k.u = true) (ha : againB k.r normal = true) (hno : noteB S.m S.tt S.ts now = false) :
    downS S c normal now = { S with ts := noteTs S.m S.tt S.ts now, st := 1, fr := c, to := c + 1, th := 1, hl := c } ∧ downA S c normal now = [(1, (c : Int))] := by
  have hr2 : k.r ≠ 2 := by
    intro e
    rw [e] at ha
    simp [againB] at ha
  have hd : (downOf S c).cs[c]? = some ⟨k.r, k.t, false⟩ := downOf_get hk
  have ep : planS (downOf S c) c now = { downOf S c with ts := noteTs S.m S.tt S.ts now, fr := c, to := c + 1, th := 1, hl := c } := by
    unfold planS
    show { (if noteB S.m S.tt S.ts now then endS _ else againS _ c) with hl := c } = _
    rw [hno]
    show { (againS _ c) with hl := c } = _
    unfold againS
    rw [if_pos (show (downOf S c).sg = 1 ∨ (downOf S c).sg = 3 from .inl h1), if_pos (show (downOf S c).sg = 1 from h1)]
    rfl
  have el : lastUp (downOf S c).cs c (c + 1) = none := by
    rw [lastUp_step (by omega), upAt_of hd]
    exact lastUp_end (by omega)
  have er : raise (downOf S c).cs c (c + 1) = S.cs := by
    rw [raise_succ hd (Nat.le_refl _) hr2, raise_same (Nat.le_refl _)]
    exact setU_back hk hu
  have es : startsOf (downOf S c).cs c (c + 1) = [c] := by
    rw [startsOf_succ (Nat.le_refl _) hd, if_pos hr2, startsOf_zero (Nat.le_refl _)]; rfl
  have e1 : downS S c normal now = turnS (planS (downOf S c) c now) now := by
    unfold downS
    rw [if_pos h2, rAt_of hk, if_pos ha]
  have e2 : downA S c normal now = turnA (planS (downOf S c) c now) := by
    unfold downA
    rw [if_pos h2, rAt_of hk, if_pos ha]
  rw [e1, e2, ep]
  unfold turnS turnA
  simp only [el]
  unfold thenS thenA
  simp only [if_true, er, es]
  refine ⟨?_, rfl⟩
  show Su.mk _ _ _ _ _ _ _ _ _ _ _ _ = _
  rfl
theorem once_quiet {S : Su} {c now : Nat} {k : Kd} {normal : Bool} (h2 : S.st = 1) (hk : S.cs[c]? = some k) (ha : againB k.r normal = false) :
    downS S c normal now = downOf S c ∧ downA S c normal now = [] := by
  unfold downS downA
  rw [if_pos h2, if_pos h2, rAt_of hk, ha]
  exact ⟨rfl, rfl⟩
theorem once_note {ts : List Nat} {now : Nat} (h : ∀ x ∈ ts, x < now) : noteB 1000 1 ts now = false ∧ ∀ x ∈ noteTs 1000 1 ts now, x < now + 1 := by
  constructor
  · unfold noteB
    rw [decide_eq_false]
    rintro ⟨h1, h2⟩
    cases ts with
    | nil => simp at h1
    | cons a l =>
      have := h a (by simp)
      simp at h2
      omega
  · intro x hx
    have key : ∀ y ∈ ts ++ [now], y < now + 1 := fun y hy => by
      rcases List.mem_append.1 hy with e | e
      · have := h y e; omega
      · simp at e; omega
    unfold noteTs at hx
    split at hx
    · exact key x hx
    · split at hx
      · exact key x hx
      · exact key x (List.mem_of_mem_tail hx)
/-- booleans at g -/
def BoAt (w : World) (g : Nat) (l : List Bool) : Prop := w.heap[g]? = some (.cells (l.map Value.bool).toArray 4 (0, 0))
theorem BoAt.cell {w : World} {g i : Nat} {l : List Bool} {x : Bool} (h : BoAt w g l) (hi : l[i]? = some x) : w.cell? ⟨g, i, none⟩ = some (.bool x) := by
  rw [cell_of_row w g _ _ _ _ h, List.getElem?_toArray, List.getElem?_map, hi]; rfl
theorem BoAt.fz {w : World} {g : Nat} {l : List Bool} (h : BoAt w g l) (o : Nat) : w.frozen? ⟨g, o, none⟩ = false := by unfold BoAt at h; simp [World.frozen?, h]
theorem BoAt.set {w : World} {g : Nat} {l : List Bool} (h : BoAt w g l) (i : Nat) (x : Bool) : BoAt (w.setCell ⟨g, i, none⟩ (.bool x)) g (l.set i x) := by
  unfold BoAt
  rw [su_heap_set h]
  congr 2
  simp
theorem BoAt.kp {F : Nat → Prop} {w w' : World} {g : Nat} {l : List Bool} (h : BoAt w g l) (hk : Kp F w w') (hF : ¬ F g) : BoAt w' g l := (hk.block g (Array.getElem?_eq_some_iff.1 h).1 hF).trans h
theorem BoAt.made {w w1 : World} {base n : Nat} (h : w1.ownsRow base 4 1 (.slice (some ⟨w.heap.size, 0, none⟩) n n) n (madeCells #[.bool false] (n * 1)).toList) : BoAt w1 w.heap.size (List.replicate n false) := by
  rcases h.2 with ⟨e, _⟩ | ⟨g, cap, cur, e, -, hg, -, -, hsz, htk⟩
  · cases e
  · injection e with e1 _ e3
    injection e1 with e1
    injection e1 with e1
    subst e3
    rw [e1]
    unfold BoAt
    rw [hg]
    congr 2
    apply Array.ext'
    rw [List.take_of_length_le (by simp; omega), toList_madeCells_one, Nat.mul_one] at htk
    rw [htk]
    simp
/-- all that the statement holds, beside the supervisor -/
structure On (w wr : World) (b B g : Nat) (v : Value) (ch : List Ch) (ups : List Bool) (S : Su) : Prop where
  ss : SS w (fun q => q = B ∨ v.ownBlock = some q ∨ q = g) wr b S
  main : wr.cell? ⟨B, 3, none⟩ = some v
  row : wr.ownsS 29 3 v ch.length (chC ch)
  bo : BoAt wr g ups
  gn : w.heap.size ≤ g
  bg : B ≠ g
  vg : v.ownBlock ≠ some g
section
variable {w wr w2 : World} {b B g : Nat} {v : Value} {ch : List Ch} {ups : List Bool} {S S' : Su} {A : Acts} {e : Ending}
theorem On.same (h : On w wr b B g v ch ups S) (hk : Kp (fun _ => False) wr w2) : On w w2 b B g v ch ups S :=
  ⟨h.ss.same hk, (hk.cell (p := ⟨B, 3, none⟩) (World.block_lt_of_cell? _ _ h.main) (fun e => e)).trans h.main, hk.rowS h.row (fun _ _ e => e), h.bo.kp hk (fun e => e), h.gn, h.bg, h.vg⟩
/-- the supervisor was told -/
theorem On.told (h : On w wr b B g v ch ups S) (ht : SsTo w (fun q => q = B ∨ v.ownBlock = some q ∨ q = g) wr b S' A e w2) : ∃ l, e = .returned l ∧ AcW w2 l A ∧ On w w2 b B g v ch ups S' := by
  obtain ⟨l, rfl, h1, h2, h3, h4⟩ := ht
  exact ⟨l, rfl, h1, ⟨h3.sub fun q hq => .inl hq, (h4.cell (p := ⟨B, 3, none⟩) (World.block_lt_of_cell? _ _ h.main) (fun e => e (.inl rfl))).trans h.main, h4.rowS h.row (fun q hq e => e (.inr (.inl hq))), h.bo.kp h4 (fun e => e (.inr (.inr rfl))), h.gn, h.bg, h.vg⟩⟩
/-- one of the booleans is written -/
theorem On.put (h : On w wr b B g v ch ups S) (i : Nat) (x : Bool) : On w (wr.setCell ⟨g, i, none⟩ (.bool x)) b B g v ch (ups.set i x) S ∧ Kp (fun q => q = g) wr (wr.setCell ⟨g, i, none⟩ (.bool x)) := by
  have hk : Kp (fun q => q = g) wr (wr.setCell ⟨g, i, none⟩ (.bool x)) := (Kp.refl _ wr).setCell _ _ (.inl rfl)
  refine ⟨⟨h.ss.turn hk (fun q hq => ⟨.inr (.inr hq), by rw [hq]; exact h.gn⟩) (fun q hq => .inl hq), (hk.cell (p := ⟨B, 3, none⟩) (World.block_lt_of_cell? _ _ h.main) h.bg).trans h.main, hk.rowS h.row (fun q hq e => h.vg (by rw [hq, e])), h.bo.set i x, h.gn, h.bg, h.vg⟩, hk⟩
end
/-- the machine: one for one, idle -/
structure Oi (S : Su) (ch : List Ch) (i : Nat) : Prop where
  sg : S.sg = 1
  st : S.st = 1
  m : S.m = 1000
  tt : S.tt = 1
  len : S.cs.length = ch.length
  kind : ∀ (j : Nat) (c : Ch), ch[j]? = some c → ∃ k : Kd, S.cs[j]? = some k ∧ k.r = c.2.1
  ok : SuOk S i
  ts : ∀ x ∈ S.ts, x < i
def chs (z : Nat → Int) (i : Nat) : List Ch := (List.range i).map fun j => (opF, z j % 3, 5)
theorem chs_len (z : Nat → Int) (i : Nat) : (chs z i).length = i := by simp [chs]
theorem chs_succ (z : Nat → Int) (i : Nat) : chs z (i + 1) = chs z i ++ [(opF, z i % 3, 5)] := by simp [chs, List.range_succ]
theorem chs_get {z : Nat → Int} {i j : Nat} (h : j < i) : (chs z i)[j]? = some (opF, z j % 3, 5) := by simp [chs, h]
theorem chs_mem {z : Nat → Int} {i : Nat} {c : Ch} (h : c ∈ chs z i) : ∃ j, c = (opF, z j % 3, 5) := by
  unfold chs at h
  obtain ⟨j, -, rfl⟩ := List.mem_map.1 h
  exact ⟨j, rfl⟩
theorem cf_place (args : Array Value) (w : World) : (callFunc 10 args).run Try.prog w = .ok (.enter 10 args) w := by kernel_rfl
def fl (n i : Nat) : List Bool := (List.range n).map fun j => decide (j < i)
theorem fl_zero (n : Nat) : fl n 0 = List.replicate n false := by
  apply List.ext_getElem?
  intro j
  unfold fl
  rcases Nat.lt_or_ge j n with h | h
  · simp [h]
  · simp [h]
theorem fl_get {n i j : Nat} (h : j < n) : (fl n i)[j]? = some (decide (j < i)) := by simp [fl, h]
theorem fl_set {n i : Nat} (h : i < n) : (fl n i).set i true = fl n (i + 1) := by
  apply List.ext_getElem?
  intro j
  by_cases e : i = j
  · subst e
    rw [List.getElem?_set_self (by simp [fl]; exact h), fl_get h]; simp
  · rw [List.getElem?_set_ne e]
    rcases Nat.lt_or_ge j n with h2 | h2
    · rw [fl_get h2, fl_get h2]
      have : j < i + 1 ↔ j < i := by omega
      simp [this]
    · simp [fl, h2]
def upsB (cs : List Kd) : List Bool := cs.map fun k => k.u
theorem upsB_get {cs : List Kd} {j : Nat} {k : Kd} (h : cs[j]? = some k) : (upsB cs)[j]? = some k.u := by simp [upsB, h]
theorem upsB_setU (cs : List Kd) (c : Nat) (x : Bool) : upsB (setU cs c x) = (upsB cs).set c x := by
  apply List.ext_getElem?
  intro j
  unfold upsB
  rw [List.getElem?_map, setU_get]
  by_cases e : c = j
  · subst e
    cases hc : cs[c]? with
    | none =>
      have := List.getElem?_eq_none_iff.1 hc
      rw [List.getElem?_eq_none (by simp; exact this)]; rfl
    | some k =>
      rw [List.getElem?_set_self (by simp; exact (List.getElem?_eq_some_iff.1 hc).1)]; simp
  · rw [List.getElem?_set_ne e, List.getElem?_map]
    cases cs[j]? with
    | none => rfl
    | some k => simp [e]
theorem upsB_same {cs : List Kd} {c : Nat} {k : Kd} (h : cs[c]? = some k) : (upsB cs).set c k.u = upsB cs := by
  apply List.ext_getElem?
  intro j
  by_cases e : c = j
  · subst e
    rw [List.getElem?_set_self (by simp [upsB]; exact (List.getElem?_eq_some_iff.1 h).1), upsB_get h]
  · rw [List.getElem?_set_ne e]
theorem upsB_all {ch : List Ch} (n : Nat) (hn : ch.length = n) : upsB (upTo (ch.map kidOf) (ch.map kidOf).length) = fl n n := by
  apply List.ext_getElem?
  intro j
  unfold upsB upTo
  rw [List.getElem?_map, lift_get, List.getElem?_map, List.length_map, hn]
  rcases Nat.lt_or_ge j n with h | h
  · rw [fl_get h, List.getElem?_eq_getElem (by omega)]
    simp [h]
  · rw [List.getElem?_eq_none (by omega), List.getElem?_eq_none (by simp [fl]; exact h)]; rfl
/-- what a Down leaves of it -/
theorem Oi.down {S : Su} {ch : List Ch} {i c : Nat} {k : Kd} {normal : Bool} (h : Oi S ch i) (hk : S.cs[c]? = some k) (hu : k.u = true) :
    Oi (downS S c normal i) ch (i + 1) ∧ upsB (downS S c normal i).cs = (upsB S.cs).set c (againB k.r normal) ∧ downA S c normal i = if againB k.r normal then [(1, (c : Int))] else [] := by
  have hcl := (List.getElem?_eq_some_iff.1 hk).1
  have hn := once_note h.ts
  have hok := (h.ok.down hcl normal).mono (Nat.le_succ i)
  cases ha : againB k.r normal with
  | true =>
    have hd := once_down (now := i) h.sg h.st hk hu ha (by rw [h.m, h.tt]; exact hn.1)
    rw [hd.1] at hok ⊢
    rw [hd.2]
    refine ⟨⟨h.sg, rfl, h.m, h.tt, h.len, h.kind, hok, ?_⟩, ?_, rfl⟩
    · show ∀ x ∈ noteTs S.m S.tt S.ts i, x < i + 1
      rw [h.m, h.tt]
      exact hn.2
    · show upsB S.cs = _
      have := upsB_same hk
      rw [hu] at this
      exact this.symm
  | false =>
    have hd := once_quiet (now := i) h.st hk ha
    rw [hd.1] at hok ⊢
    rw [hd.2]
    refine ⟨⟨h.sg, h.st, h.m, h.tt, ?_, fun j c2 hj => ?_, hok, fun x hx => ?_⟩, upsB_setU _ _ _, rfl⟩
    · show (setU _ _ _).length = _
      rw [setU_len]; exact h.len
    · obtain ⟨k2, e1, e2⟩ := h.kind j c2 hj
      obtain ⟨k', e3, e4, -⟩ := setU_r (j := c) (u := false) e1
      exact ⟨k', e3, e4.trans e2⟩
    · have := h.ts x hx; omega
theorem Oi.next {S : Su} {ch : List Ch} {i : Nat} (h : Oi S ch i) : Oi S ch (i + 1) :=
  ⟨h.sg, h.st, h.m, h.tt, h.len, h.kind, h.ok.mono (Nat.le_succ i), fun x hx => by have := h.ts x hx; omega⟩
theorem Oi.first {ch : List Ch} (hri : rightL ⟨1, 1000, 1⟩ ch = []) : Oi (beginS (newS ⟨1, 1000, 1⟩ ch)) ch 0 := by
  refine ⟨rfl, rfl, rfl, rfl, ?_, fun j c hj => ?_, (newS_ok hri 0).begin, fun x hx => by cases hx⟩
  · show (upTo (ch.map kidOf) _).length = _
    rw [upTo_len, List.length_map]
  · show ∃ k : Kd, (lift _ (ch.map kidOf))[j]? = some k ∧ _
    have h1 : (ch.map kidOf)[j]? = some (kidOf c) := by rw [List.getElem?_map, hj]; rfl
    obtain ⟨k', e1, e2, -⟩ := lift_r (p := fun i _ => decide (i < (ch.map kidOf).length)) h1
    exact ⟨k', e1, e2⟩
end Go.Proofs.Ytbdogiblndlimaa
