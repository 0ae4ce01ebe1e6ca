/- A call of a function as one step of a region that draws its order; bytes that are copied. A region that draws its order: quiet operations in any order, then one that may do anything, then quiet ones in any order: one walk in the order of the text serves every order. A term is copied into new memory. -/
import Derived.Test.YtaeoohjgdkablaaDoorProg
import Derived.Test.YtaeoohjgdkablaaDoorM01
import Derived.Test.YtaeoohjgdkablaaDoorM02
import Derived.Test.YtaeoohjgdkablaaDoorM04
import Derived.Test.YtaeoohjgdkablaaDoorM15
import Derived.Deep.RegionLaw
import Derived.Deep.RegionWith
import Derived.StillTail
import Derived.Deep.QuietTactic
import Derived.Deep.AppendLies
/- A call of a function as one step of a region that draws its order; bytes that are copied. -/
namespace Go.Proofs.YtaeoohjgdkablaaDoor
open Go.RowKit

section
variable {P : Program} {w : World}
theorem run_fn {a : Act} {f : FuncId} {xs : Array Operand} {ts : Array TypeId} {o : Oper} (ho : o.op = .call { callee := .value (.func f), args := xs, argTypes := ts })
    (hcf : ∀ (args : Array Value) (w : World), (callFunc f args).run P w = .ok (.enter f args) w) {vs : Array Value} (hx : xs.map a.eval = vs) : (execOp a.eval o).run P w = .ok (.enter f vs) w := by
  have hev : a.eval (.func f) = .func (.func f) #[] #[] := rfl
  unfold execOp
  simp only [ho, resolve, invoke, hx, hev, Deferred.ofValue]
  simp [hcf]
theorem step_fn {ops : Array Oper} {o : Oper} {a : Act} {K : Act → World → Prop} {Q : Exit → Act → World → Prop} {E : Prop} (hgd : o.guard = none) (f : FuncId) (xs : Array Operand) (ts : Array TypeId)
    (ho : o.op = .call { callee := .value (.func f), args := xs, argTypes := ts }) (hcf : ∀ (args : Array Value) (w : World), (callFunc f args).run P w = .ok (.enter f args) w) (vs : Array Value) (hx : xs.map a.eval = vs)
    (h : Calls P f vs w fun e w' => ∃ v, e = .returned v ∧ K (a.put o.dst v) w') : if Region.wanted o (yielded ops a.tmps) = true then Oper.wp P o a w K Q else E := by
  have hw : Region.wanted o (yielded ops a.tmps) = true := by simp [Region.wanted, hgd]
  rw [if_pos hw]
  unfold Oper.wp
  rw [run_fn ho hcf hx, Oper.upon_enter]
  refine h.mono ?_
  rintro e w' ⟨v, rfl, hK⟩
  exact hK
end

/-- bytes are put behind nothing: new memory -/
theorem app_new {F : Nat → Prop} {w : World} {m : List UInt8} {x : Value} (hx : BytesAt F w m x) (hl : m.length ≤ 70368744177664) :
    ∃ po n c w', (Builtin.append_ #[23, 23] 23 #[.slice none 0 0, x]).run Tryd.prog w = .ok (.slice po n c) w' ∧ BytesAt (Own w.heap.size w') w' m (.slice po n c) ∧ Kp (fun _ => False) w w' := by
  obtain ⟨po, n, c, w', hr, hb, hk⟩ := app_bytes (B := w.heap.size) (BufAt.nil (Nat.le_refl _)) hx (by simpa using hl)
  rw [List.nil_append] at hb
  exact ⟨po, n, c, w', hr, hb.at' (by omega), Kp.mono hk fun q hq e => by have := e.1; omega⟩

theorem some_ok {w : World} {R : Nat} {v : Value} {l : List UInt8} {p q : Nat} {s : List UInt8} (h : RAt w R v l p) (hs : s.length ≤ 1099511627776) (hx : l.drop p = encB s ++ l.drop q) (hq : q = p + (encB s).length) :
    Calls Tryd.prog 39 #[.pointer (some ⟨R, 0, none⟩)] w fun e w' => ∃ po n c, e = .returned (.slice po n c) ∧ BytesAt (fun q => q < R) w' s (.slice po n c) ∧ RAt w' R v l q ∧ Kp (fun q => q = R) w w' := by
  refine (some_any h).mono ?_
  rintro e w' (⟨s', x, rfl, h1, h2, h3, h4, h5⟩ | ⟨_, hno⟩)
  · obtain ⟨rfl, _⟩ := encB_cut (hx.symm.trans h4)
    obtain ⟨po, n, c, rfl⟩ := h1.form
    exact ⟨po, n, c, rfl, h1, hq ▸ h3, h5⟩
  · exact absurd hx (hno s _ hs)
theorem some_no {w : World} {R : Nat} {v : Value} {l : List UInt8} {p : Nat} (h : RAt w R v l p) (hno : ∀ s y, s.length ≤ 1099511627776 → l.drop p ≠ encB s ++ y) :
    Calls Tryd.prog 39 #[.pointer (some ⟨R, 0, none⟩)] w (RFail R w) := by
  refine (some_any h).mono ?_
  rintro e w' (⟨s', x, rfl, h1, h2, h3, h4, h5⟩ | ⟨hf, _⟩)
  · exact absurd h4 (hno s' _ h2)
  · exact hf
end Go.Proofs.YtaeoohjgdkablaaDoor

/- A region that draws its order: quiet operations in any order, then one that may do anything, then quiet ones in any order: one walk in the order of the text serves every order. -/
namespace Go.Proofs.YtaeoohjgdkablaaDoor
open Go.RowKit

/-- each operation behind n waits for one that stands between n and it -/
def behindB (md : Region.Mode) (ops : Array Oper) (n : Nat) : Bool := (List.range ops.size).all fun t => decide (t ≤ n) || (List.range t).any fun j => decide (n ≤ j) && Region.waitsFor md ops t j
section
variable {P : Program} {md : Region.Mode} {ops : Array Oper} {C : World → Prop} {n i : Nat}
/-- while one ahead of n has not come up, none from n on may -/
theorem none_behind {listed : Array Bool} (hs : Region.sinkB md ops n = true) (hc : behindB md ops n = true) (hn : n < ops.size) (inv : HeadInv md ops n listed) (hi : i < n) (hun : listed.getD i true = false) : ∀ t, n ≤ t → t ∉ Region.ready md ops listed := by
  have atN : n ∉ Region.ready md ops listed := by
    suffices H : ∀ d i, n - i = d → i < n → listed.getD i true = false → n ∉ Region.ready md ops listed from H _ i rfl hi hun
    intro d
    induction d using Nat.strongRecOn with
    | _ d ih =>
      intro i hd hi hun hr
      obtain ⟨_, on, hon, hall⟩ := mem_ready.1 hr
      obtain ⟨j, hj, hj2⟩ := List.any_eq_true.1 (List.all_eq_true.1 hs i (List.mem_range.2 hi))
      simp only [Bool.and_eq_true, decide_eq_true_eq] at hj2
      obtain ⟨oj, hoj, e, he, hb, heq⟩ := Region.waitsFor_spec hj2.2
      have hjl := List.mem_range.1 hj
      by_cases hjn : j = n
      · subst hjn
        obtain rfl : oj = on := Option.some.inj (hoj.symm.trans hon)
        have := hall e he hb
        rw [heq, getD_both hun] at this
        cases this
      · cases hl : listed.getD j false with
        | true =>
          have := inv.closed j oj hoj hl e he hb
          rw [heq, getD_both hun] at this
          cases this
        | false => exact ih (n - j) (by omega) j rfl (by omega) (getD_in (by rw [inv.size]; omega) hl) hr
  intro t ht hr
  rcases Nat.lt_or_ge n t with hlt | hge
  · obtain ⟨_, ot, hot, hall⟩ := mem_ready.1 hr
    have htl := (Array.getElem?_eq_some_iff.1 hot).1
    have h1 := List.all_eq_true.1 hc t (List.mem_range.2 htl)
    simp only [Bool.or_eq_true, decide_eq_true_eq] at h1
    rcases h1 with h1 | h1
    · omega
    · obtain ⟨j, hj, hj2⟩ := List.any_eq_true.1 h1
      simp only [Bool.and_eq_true, decide_eq_true_eq] at hj2
      obtain ⟨o, ho, e, he, hb, heq⟩ := Region.waitsFor_spec hj2.2
      obtain rfl : o = ot := Option.some.inj (ho.symm.trans hot)
      have := hall e he hb
      have hjl := List.mem_range.1 hj
      rw [heq, getD_both (inv.tail j hj2.1 (by omega))] at this
      cases this
  · obtain rfl : t = n := by omega
    exact atN hr

/-- the head in whatever order; then only n may come up -/
def headAny (P : Program) (md : Region.Mode) (ops : Array Oper) (C : World → Prop) (n : Nat) (L : Array Bool → Act → Prop) : Nat → Array Bool → Act → Prop
  | 0, listed, a => Region.ready md ops listed = [n] ∧ L listed a
  | f + 1, listed, a => Region.ready md ops listed ≠ [] ∧ ∀ i ∈ Region.ready md ops listed, qOp P ops C i (headAny P md ops C n L f (listed.setIfInBounds i true)) a

theorem headAny_first {oi : Oper} {v : Value} {L : Array Bool → Act → Prop} (hi : ops[i]? = some oi) (hsel : ∀ (j : Nat) (o : Oper) cs b, ops[j]? = some o → o.op ≠ .select cs b) (hs : Region.sinkB md ops n = true) (hc : behindB md ops n = true) (hn : n < ops.size) (hin : i < n) :
    ∀ (f : Nat) (listed : Array Bool) (a : Act), HeadInv md ops n listed →
      (∀ j oj, ops[j]? = some oj → j ≠ i → listed.getD j true = false → (∀ e ∈ oj.after, Region.binds md e = true → e.on ≠ i) → oi.apart ops oj = true) →
      i ∈ Region.ready md ops listed → YieldsIn P ops C oi v a → headAny P md ops C n L f (listed.setIfInBounds i true) (a.put oi.dst v) → headAny P md ops C n L (f + 1) listed a
  | 0, listed, a, inv, _, hr, hy, H => by
    refine ⟨fun h => (by rw [h] at hr; cases hr), fun j hj => ?_⟩
    by_cases hji : j = i
    · subst hji
      exact hy.qOp hi H
    · have h1 := ready_mono hj hji
      rw [H.1] at h1
      have h2 := List.mem_singleton.1 h1
      exact absurd hj (none_behind hs hc hn inv hin (mem_ready.1 hr).1 j (by omega))
  | f + 1, listed, a, inv, hfree, hr, hy, H => by
    have hun := (mem_ready.1 hr).1
    refine ⟨fun h => (by rw [h] at hr; cases hr), fun j hj => ?_⟩
    by_cases hji : j = i
    · subst hji
      exact hy.qOp hi H
    · have hjn : j < n := by
        rcases Nat.lt_or_ge j n with h | h
        · exact h
        · exact absurd hj (none_behind hs hc hn inv hin hun j h)
      obtain ⟨hjun, oj, hoj, hall⟩ := mem_ready.1 hj
      have hnot : ∀ e ∈ oj.after, Region.binds md e = true → e.on ≠ i := fun e he hb heq => by
        have := hall e he hb
        rw [heq, getD_both hun] at this
        cases this
      have h2 := qOp_put hoj (hfree j oj hoj hji hjun hnot) (fun cs b => hsel i oi cs b hi) (fun cs b => hsel j oj cs b hoj) hy (H.2 j (ready_mono hj hji))
      refine qOp_mono (fun a' h3 => headAny_first hi hsel hs hc hn hin f (listed.setIfInBounds j true) a' (inv.set hj hjn) (fun k ok hk hki hku hno => hfree k ok hk hki ?_ hno) (ready_mono hr (Ne.symm hji)) h3.1 ?_) h2
      · by_cases hjk : j = k
        · subst hjk
          exact hjun
        · rw [getD_set_ne true hjk] at hku
          exact hku
      · rw [Array.setIfInBounds_comm _ _ hji]
        exact h3.2

/-- the head in the order of the text is a way; behind it only n may come up; behind n the rest in the order of the text is a way -/
def headB (md : Region.Mode) (ops : Array Oper) (n g : Nat) : Nat → Nat → Array Bool → Bool
  | 0, _, listed => decide (Region.ready md ops listed = [n]) && Region.lexFrom md ops g (n + 1) (listed.setIfInBounds n true)
  | f + 1, k, listed => (Region.ready md ops listed).contains k && Region.free md ops listed k && headB md ops n g f (k + 1) (listed.setIfInBounds k true)
def drawB (md : Region.Mode) (ops : Array Oper) (n : Nat) : Bool :=
  Region.noSelect ops && decide (n < ops.size) && Region.sinkB md ops n && behindB md ops n && headB md ops n (ops.size - n - 1) n 0 (Array.replicate ops.size false)

theorem headAny_lex {g : Nat} {Lq : Act → Prop} (hsel : Region.noSelect ops = true) (hs : Region.sinkB md ops n = true) (hc : behindB md ops n = true) (hn : n < ops.size) :
    ∀ (l : List Oper) (k : Nat) (listed : Array Bool) (a : Act), (∀ j, j < l.length → l[j]? = ops[k + j]?) → k + l.length = n → HeadInv md ops n listed → headB md ops n g l.length k listed = true → wpQuiet P ops C Lq l a →
    headAny P md ops C n (fun listed' a' => Region.lexFrom md ops g (n + 1) (listed'.setIfInBounds n true) = true ∧ Lq a') l.length listed a
  | [], k, listed, a, _, _, _, hB, h => by
    simp only [List.length_nil, headB, Bool.and_eq_true, decide_eq_true_eq] at hB
    exact ⟨hB.1, hB.2, h⟩
  | o :: l, k, listed, a, hl, hk, inv, hB, h => by
    have h0 : ops[k]? = some o := by simpa using (hl 0 (by simp)).symm
    simp only [List.length_cons, headB, Bool.and_eq_true] at hB
    obtain ⟨⟨hr, hf⟩, hB'⟩ := hB
    simp only [List.length_cons] at hk
    have hr' : k ∈ Region.ready md ops listed := by simpa using hr
    have hst : qOp P ops C k (wpQuiet P ops C Lq l) a := by unfold qOp; simp only [h0]; exact h
    obtain ⟨v, hy, hK⟩ := yieldsIn_of_qOp h0 hst
    exact headAny_first h0 (Region.noSelect_spec hsel) hs hc hn (by omega) l.length listed a inv (Region.free_spec h0 hf) hr' hy
      (headAny_lex hsel hs hc hn l (k + 1) _ _ (fun j hj => by have := hl (j + 1) (by simp; omega); simpa [Nat.add_assoc, Nat.add_comm 1 j] using this) (by omega) (inv.set hr' (by omega)) hB' hK)

theorem wpAny_of_headAny {L : Array Bool → Act → Prop} {Q : Exit → Act → World → Prop} {g : Nat} (hL : ∀ listed a w, C w → Region.ready md ops listed = [n] → L listed a → wpAny P md ops Q g listed a w) :
    ∀ (f : Nat) (listed : Array Bool) (a : Act) (w : World), C w → headAny P md ops C n L f listed a → wpAny P md ops Q (f + g) listed a w
  | 0, listed, a, w, hw, h => by rw [Nat.zero_add]; exact hL listed a w hw h.1 h.2
  | f + 1, listed, a, w, hw, h => by
    rw [show f + 1 + g = (f + g) + 1 by omega]
    exact ⟨fun h0 => absurd h0 h.1, fun i hi => wpOp_of_qOp hw (fun a' w' hw' h' => wpAny_of_headAny hL f _ a' w' hw' h') (h.2 i hi)⟩

/-- behind operation n the rest goes quietly, in any order -/
def AfterMid (P : Program) (ops : Array Oper) (Q : Exit → Act → World → Prop) (rest : List Oper) : Exit → Act → World → Prop
  | .normal, a, w => wpQuiet P ops (fun w2 => ∃ k, w2 = w.drewN k) (fun a2 => ∀ w2, (∃ k, w2 = w.drewN k) → Q .normal a2 w2) rest a
  | .panic c, a, w => Q (.panic c) a w
  | _, _, _ => False
theorem wpOp_of_mid {Q : Exit → Act → World → Prop} {rest : List Oper} {o : Oper} {a : Act} {w : World} (ho : ops[i]? = some o) (h : wpList P ops (AfterMid P ops Q rest) [o] a w) : wpOp P ops Q i (AfterMid P ops Q rest .normal) a w := by
  unfold wpOp
  simp only [ho]
  unfold wpList at h
  split at h
  · rename_i hw
    rw [if_pos hw]
    rcases h with h | ⟨_, _, _, h⟩
    · refine .inl ?_
      unfold Oper.wp at *
      generalize (execOp a.eval o).run P w = r at *
      cases r with
      | ok x w' =>
        cases x <;> simp only [Oper.upon] at h ⊢
        · exact h
        · exact h
        · refine h.mono fun e w'' h => ?_
          cases e with
          | returned v => exact h
          | panicked ch => exact h
          | outgrown =>
            obtain ⟨_, _, h⟩ := h
            exact h.elim
        all_goals first | exact h | exact h.elim
      | halt x w' =>
        cases x <;> simp only [Oper.upon] at h ⊢
        all_goals first | exact h | exact h.elim
    · exact h.elim
  · rename_i hw
    rw [if_neg hw]
    exact h

theorem wp_region_draw {id : Nat} {Q : Exit → Act → World → Prop} {a : Act} {w : World} {l : List Oper} (n : Nat) (o : Oper) (hm : P.follows .mixedOrders = true) (hB : drawB .any l.toArray n = true) (ho : l[n]? = some o)
    (h : wpQuiet P l.toArray (fun w' => ∃ k, w' = w.drewN k) (fun a' => ∀ w', (∃ k, w' = w.drewN k) → wpList P l.toArray (AfterMid P l.toArray Q (l.drop (n + 1))) [o] a' w') (l.take n) a) : (Code.region id l.toArray true).wp P Q a w := by
  simp only [drawB, Bool.and_eq_true, decide_eq_true_eq] at hB
  obtain ⟨⟨⟨⟨hsel, hn⟩, hs⟩, hc⟩, hlex⟩ := hB
  have hn' : n < l.length := by simpa using hn
  have htl : (l.take n).length = n := by simp; omega
  have hdl : (l.drop (n + 1)).length = l.toArray.size - n - 1 := by simp; omega
  have inv0 : HeadInv .any l.toArray n (Array.replicate l.toArray.size false) :=
    ⟨by simp, fun j oj _ hl => (by rw [getD_replicate_false] at hl; cases hl), fun t _ ht => getD_in (by simpa using ht) (getD_replicate_false _ _)⟩
  have H := headAny_lex (md := .any) (C := fun w' => ∃ k, w' = w.drewN k) (g := l.toArray.size - n - 1) hsel hs hc hn (l.take n) 0 _ a (fun j hj => by
    have hj' : j < n := by rw [htl] at hj; exact hj
    simp [hj']) (by simpa using htl) inv0 (by rw [htl]; exact hlex) h
  refine wp_region_any hm ?_
  have := wpAny_of_headAny (Q := Q) (g := l.toArray.size - n - 1 + 1) (fun listed a' w' hw' hr hL => by
    refine ⟨fun h0 => (by rw [hr] at h0; cases h0), fun i hi => ?_⟩
    rw [hr] at hi
    obtain rfl := List.mem_singleton.1 hi
    obtain ⟨hlx, hq⟩ := hL
    refine wpOp_mono (fun a2 w2 h2 => ?_) (wpOp_of_mid (by simpa using ho) (hq w' hw'))
    have h3 := wpAnyQ_lex (md := .any) (C := fun w3 => ∃ k, w3 = w2.drewN k) hsel (l.drop (i + 1)) (i + 1) (listed.setIfInBounds i true) a2 (fun j => by simp [List.getElem?_drop]) (by rw [hdl]; exact hlx) h2
    rw [hdl] at h3
    exact wpAny_of_quiet (Q := fun a2 => ∀ w3, (∃ k, w3 = w2.drewN k) → Q .normal a2 w3) (fun _ w3 hw3 h => h w3 hw3) _ _ _ w2 ⟨0, rfl⟩ h3) _ _ _ _ ⟨1, rfl⟩ H
  rw [htl, show n + (l.toArray.size - n - 1 + 1) = l.toArray.size by omega] at this
  exact this
end
end Go.Proofs.YtaeoohjgdkablaaDoor

/- A term is copied into new memory. -/
namespace Go.Proofs.YtaeoohjgdkablaaDoor
open Go.RowKit

theorem Tryd.infoTerm : (Tryd.prog.info? 25).map (fun i => (i.zero, i.size, i.bytes)) = some (some (.agg #[.int .i64 0, .int .i64 0, .string ByteArray.empty, .slice none 0 0, .slice none 0 0, .slice none 0 0]), 6, 104) := by kernel_rfl

theorem copyBytes_own {F : Nat → Prop} {w : World} {l : List UInt8} {v : Value} (h : BytesAt F w l v) :
    Calls Tryd.prog 15 #[v] w fun e w' => ∃ v', e = .returned v' ∧ BytesAt (Own w.heap.size w') w' l v' ∧ Kp (fun _ => False) w w' :=
  (copyBytes_any h).mono fun _ _ ⟨v', h1, h2, h3⟩ => ⟨v', h1, h2.imp (fun _ e => e.1) (fun _ _ _ _ e => e), h3⟩

/-- what Copy does with terms of a height below h -/
def CopyIs (h : Nat) : Prop := ∀ (F : Nat → Prop) (T : Tm) (w : World) (cs : List Value), TermAt F w h T cs →
  Calls Tryd.prog 44 #[.agg cs.toArray] w fun e w' => ∃ cs', e = .returned (.agg cs'.toArray) ∧ TermAt (Own w.heap.size w') w' h T cs' ∧ Kp (fun _ => False) w w'

/-- six cells of a row -/
def Six (xs : List Value) (i : Nat) (c0 c1 c2 c3 c4 c5 : Value) : Prop :=
  xs[i * 6]? = some c0 ∧ xs[i * 6 + 1]? = some c1 ∧ xs[i * 6 + 2]? = some c2 ∧ xs[i * 6 + 3]? = some c3 ∧ xs[i * 6 + 4]? = some c4 ∧ xs[i * 6 + 5]? = some c5
theorem Six.more {xs ys : List Value} {i : Nat} {c0 c1 c2 c3 c4 c5 : Value} (h : Six xs i c0 c1 c2 c3 c4 c5) : Six (xs ++ ys) i c0 c1 c2 c3 c4 c5 := by
  obtain ⟨h0, h1, h2, h3, h4, h5⟩ := h
  have l := (List.getElem?_eq_some_iff.1 h5).1
  refine ⟨?_, ?_, ?_, ?_, ?_, ?_⟩ <;> (rw [List.getElem?_append_left (by omega)]; assumption)
theorem Six.last {xs : List Value} {k : Nat} (hx : xs.length = k * 6) (c0 c1 c2 c3 c4 c5 : Value) : Six (xs ++ [c0, c1, c2, c3, c4, c5]) k c0 c1 c2 c3 c4 c5 := by
  refine ⟨?_, ?_, ?_, ?_, ?_, ?_⟩ <;> (rw [List.getElem?_append_right (by omega), hx]; simp)

structure Copied (h : Nat) (l : List Tm) (w wr : World) (v : Value) (k : Nat) (xs : List Value) (G : Nat → Prop) : Prop where
  row : wr.ownsRow w.heap.size 25 6 v k xs
  lo : ∀ q, G q → w.heap.size ≤ q ∧ q < wr.heap.size
  ap : ∀ g, v.ownBlock = some g → ¬ G g
  el : ∀ i t, i < k → l[i]? = some t → ∃ c0 c1 c2 c3 c4 c5, Six xs i c0 c1 c2 c3 c4 c5 ∧ TermAt G wr h t [c0, c1, c2, c3, c4, c5]
  kp : Kp (fun _ => False) w wr

theorem Copied.push {h : Nat} {l : List Tm} {w wr w2 w3 : World} {v : Value} {k : Nat} {xs : List Value} {G : Nat → Prop} (hc : Copied h l w wr v k xs G) {t : Tm} {c0 c1 c2 c3 c4 c5 : Value} (ht : l[k]? = some t)
    (hT : TermAt (Own wr.heap.size w2) w2 h t [c0, c1, c2, c3, c4, c5]) (hk2 : Kp (fun _ => False) wr w2) {o : Obj} {g cap : Nat}
    (hown : w3.ownsRow w.heap.size 25 6 (.slice (some ⟨g, 0, none⟩) (k + 1) cap) (k + 1) (xs ++ [c0, c1, c2, c3, c4, c5]))
    (hg : (w2.alloc o).grownBy w3 v.ownBlock) (hat : v.ownBlock = some g ∨ g = w2.heap.size + 1) :
    Copied h l w w3 (.slice (some ⟨g, 0, none⟩) (k + 1) cap) (k + 1) (xs ++ [c0, c1, c2, c3, c4, c5]) (fun q => G q ∨ Own wr.heap.size w2 q) := by
  have hz := hc.kp.size
  have hz2 := hk2.size
  have hk3 : Kp (fun q => v.ownBlock = some q) w2 w3 := ((Kp.refl _ w2).alloc o).grown hg (fun q hq => .inl hq)
  have hz3 := hk3.size
  have hvl : ∀ q, v.ownBlock = some q → w.heap.size ≤ q ∧ q < wr.heap.size := fun q hq => hc.row.lt q hq
  have hxl : xs.length = k * 6 := hc.row.1
  refine ⟨hown, ?_, ?_, ?_, (hc.kp.trans' hk2).trans (hk3.mono fun q _ hq => .inr ⟨(hvl q hq).1, by have := (hvl q hq).2; omega⟩)⟩
  · intro q hq
    rcases hq with hq | hq
    · have := hc.lo q hq; omega
    · have h1 := hq.1; have h2 := hq.2; omega
  · intro q hq hG
    simp [Value.ownBlock] at hq
    subst hq
    rcases hat with e | e
    · rcases hG with hG | hG
      · exact hc.ap g e hG
      · have := hvl g e; have := hG.1; omega
    · rcases hG with hG | hG
      · have := hc.lo g hG; omega
      · have := hG.2; omega
  · intro i t' hi hti
    by_cases hik : i < k
    · obtain ⟨d0, d1, d2, d3, d4, d5, h6, ht'⟩ := hc.el i t' hik hti
      refine ⟨d0, d1, d2, d3, d4, d5, h6.more, ?_⟩
      have h1 := ht'.kp hk2 (fun _ _ e => e)
      have h2 := h1.kp hk3 (fun q hq e => hc.ap q e hq)
      exact TermAt.imp (fun q hq => .inl hq) (fun _ _ _ _ e => e) h t' _ h2
    · obtain rfl : i = k := by omega
      rw [ht] at hti
      injection hti with hti
      subst hti
      refine ⟨c0, c1, c2, c3, c4, c5, Six.last hxl .., ?_⟩
      have h2 := hT.kp hk3 (fun q hq e => by have := hvl q e; have := hq.1; omega)
      exact TermAt.imp (fun q hq => .inr hq) (fun _ _ _ _ e => e) h t _ h2

theorem heap_set_same' {w : World} {b i : Nat} {cs : Array Value} {T : TypeId} {fr : Nat × Nat} (hb : w.heap[b]? = some (.cells cs T fr)) (v : Value) :
    (w.setCell ⟨b, i, none⟩ v).heap[b]? = some (.cells (cs.setIfInBounds i v) T fr) := by
  simp [World.setCell, Array.getElem?_modify, hb]
/-- six cells of a block, written -/
def sixSet (w : World) (B : Nat) (c0 c1 c2 c3 c4 c5 : Value) : World :=
  (((((w.setCell ⟨B, 0, none⟩ c0).setCell ⟨B, 1, none⟩ c1).setCell ⟨B, 2, none⟩ c2).setCell ⟨B, 3, none⟩ c3).setCell ⟨B, 4, none⟩ c4).setCell ⟨B, 5, none⟩ c5
theorem sixSet_any {w : World} {B : Nat} {d0 d1 d2 d3 d4 d5 c0 c1 c2 c3 c4 c5 : Value} {T : TypeId} (h : w.heap[B]? = some (.cells #[d0, d1, d2, d3, d4, d5] T (0, 0))) :
    (sixSet w B c0 c1 c2 c3 c4 c5).heap[B]? = some (.cells #[c0, c1, c2, c3, c4, c5] T (0, 0)) ∧ Kp (fun q => q = B) w (sixSet w B c0 c1 c2 c3 c4 c5) := by
  refine ⟨?_, ?_⟩
  · exact heap_set_same' (heap_set_same' (heap_set_same' (heap_set_same' (heap_set_same' (heap_set_same' h _) _) _) _) _) _
  · exact ((((((Kp.refl (fun q => q = B) w).setCell _ _ (.inl rfl)).setCell _ _ (.inl rfl)).setCell _ _ (.inl rfl)).setCell _ _ (.inl rfl)).setCell _ _ (.inl rfl)).setCell _ _ (.inl rfl)

end Go.Proofs.YtaeoohjgdkablaaDoor
