/- A range over a function that hands on the things of a list, each at its place: a law of my own, for bodies that go by what they are handed. What was laid and put is given back, the last one first. -/
import Derived.Test.YtkcmfldcdokobaaGreatDoorM30
/- A range over a function that hands on the things of a list, each at its place: a law of my own, for bodies that go by what they are handed. -/
namespace Go.Proofs.YtkcmfldcdokobaaGreatDoor
open Go.RowKit Go.Maps Go.Shelf

/-- how a round's body may be left -/
def bodyEnds (B k : Nat) (Kq : World → World → Prop) (I : Nat → World → Prop) (Ix : Unit → World → Prop) (W : World) : Exit → Act → World → Prop
  | .normal, _, W' => KeepsFrom B W W' ∧ Kq W W' ∧ I (k + 1) W'
  | .ret, _, W' => KeepsFrom B W W' ∧ Ix () W'
  | _, _, _ => False

section
variable {α : Type} {P : Program} {n : Nat} {g : Operand} {ps : Array Tmp} {assign body : Code} {Q : Exit → Act → World → Prop} {a : Act} {w w0 : World}
/-- the two records of a loop in memory, at b and b + 1 -/
structure Recs (rec : LoopState → Option Code → Loop) (b : Nat) (st : LoopState) (pe : Option Code) (W : World) : Prop where
  lp : W.heap[b + 1]? = some (.loop (rec st pe))
  df : W.heap[b]? = some (.deferred (some []))
theorem Recs.kept {rec : LoopState → Option Code → Loop} {b : Nat} {st : LoopState} {pe : Option Code} {W W' : World} (h : Recs rec b st pe W) (hk : KeepsFrom b W W') : Recs rec b st pe W' :=
  ⟨hk.same _ _ (by omega) h.lp rfl, hk.same _ _ (Nat.le_refl _) h.df rfl⟩
theorem Recs.put {rec : LoopState → Option Code → Loop} {b : Nat} {st : LoopState} {pe : Option Code} {W : World} (h : Recs rec b st pe W) (st' : LoopState) (pe' : Option Code) : Recs rec b st' pe' (W.putObj (b + 1) (.loop (rec st' pe'))) :=
  ⟨World.putObj_heap_same (Array.getElem?_eq_some_iff.1 h.lp).1, (World.putObj_heap_other (by omega)).trans h.df⟩
theorem Recs.own {β : Type} {rec : LoopState → Option Code → Loop} {b : Nat} {st : LoopState} {pe : Option Code} {W : World} (h : Recs rec b st pe W) {I : β → World → Prop} (hI : OwnFrom b I) {s : β} (hs : I s W) (o : Obj) : I s (W.putObj (b + 1) o) :=
  hI.putObj _ hs (by omega) h.lp rfl

theorem wpIn_hands (h1 : 1 ≤ n) {gf : Nat} {lb : Array Value} (hg : a.eval g = .func (.func gf) #[] lb) (eg : ∀ args w, (callFunc gf args).run P w = .ok (.enter gf args) w)
    {encs : α → Array Value} {Kq : World → World → Prop} {xs : List α} (hseq : HandsOn (n - 1) P gf lb encs Kq xs w0)
    (hKt : ∀ {A B C : World}, Kq A B → Kq B C → Kq A C) (hKb : ∀ (W : World) (l : Nat) (o o' : Obj), w.heap.size ≤ l → W.heap[l]? = some o → o.isCells = false → o.isWalk = false → Kq W (W.putObj l o')) (hb0 : Below w0.heap.size w0 w) (hps : ∀ x, (encs x).size = ps.size)
    (I : Nat → World → Prop) (Ix : Unit → World → Prop) (M : Nat → α → Act → World → Prop) (hI : OwnFrom w.heap.size I) (hIx : OwnFrom w.heap.size Ix) (hM : ∀ k x a', OwnFrom w.heap.size (fun (_ : Unit) W => M k x a' W)) (h0 : I 0 w)
    (hassign : ∀ (l k : Nat) (x : α) (W : World), xs[k]? = some x → I k W → assign.wpIn (Fence.wide.inRound l) (n - 1 - 1) P (Exit.then (fun a' W' => KeepsFrom w.heap.size W W' ∧ Kq W W' ∧ M k x a' W') (fun _ _ _ => False)) { tmps := (ps.zip (encs x)).foldl (fun t (p, v) => t.setIfInBounds p v) a.tmps, defers := [] } W)
    (hbody : ∀ (l k : Nat) (x : α) (a' : Act) (W : World), xs[k]? = some x → M k x a' W → body.wpIn (Fence.wide.inRound l) (n - 1 - 1) P (bodyEnds w.heap.size k Kq I Ix W) a' W)
    (hdone : ∀ (D : Nat) (W : World), w.heap.size ≤ D → I xs.length W → W.heap[D]? = some (.deferred (some [])) → Q .normal { a with defers := { target := .collected D, args := #[] } :: a.defers } W)
    (hstop : ∀ (D : Nat) (W : World), w.heap.size ≤ D → Ix () W → W.heap[D]? = some (.deferred (some [])) → Code.ret.wpIn Fence.wide n P Q { a with defers := { target := .collected D, args := #[] } :: a.defers } W) :
    (Code.rangeFunc g ps assign body).wpIn Fence.wide n P Q a w := by
  refine wpIn_rangeFunc fun fn hfn => ?_
  obtain ⟨rec, hrec⟩ : ∃ rec : LoopState → Option Code → Loop, rec = fun st pe => { state := st, pending := pe, fn, tmps := a.tmps, params := ps, assign, body, defers := w.heap.size } := ⟨_, rfl⟩
  obtain ⟨W1, hW1⟩ : ∃ W1, (w.alloc (.deferred (some []))).alloc (.loop (rec .ready none)) = W1 := ⟨_, rfl⟩
  have hR1 : Recs rec w.heap.size .ready none W1 := by
    refine ⟨?_, ?_⟩
    · have := World.alloc_heap_new (w.alloc (.deferred (some []))) (.loop (rec .ready none))
      rw [World.size_alloc] at this
      rw [← hW1]
      exact this
    · rw [← hW1]
      exact (Below.heap_alloc _ _ _ (by simp)).trans (World.alloc_heap_new w _)
  have hI1 : I 0 W1 := by rw [← hW1]; exact hI.alloc _ (hI.alloc _ h0)
  have hb1 : Below w0.heap.size w0 W1 := by
    rw [← hW1]
    exact hb0.trans ((((Below.refl _ w).alloc (Nat.le_refl _) _).alloc (by simp) _).mono hb0.size)
  refine ⟨w.heap.size + 1, [{ target := .collected w.heap.size, args := #[] }], W1, { target := .fn (.func gf) lb, args := #[.func (.yield (w.heap.size + 1)) #[] #[]] }, W1, gf, #[.func (.yield (w.heap.size + 1)) #[] #[]] ++ lb, W1, ?_, ?_, fun _ _ => trivial, ?_, fun _ => h1, ?_⟩
  · rw [← hW1, hrec]
    exact run_enterLoop_outer _ _ _ _ _
  · simp only [resolve, hg]
    simp [go_sem]
  · simp [invoke, go_sem, eg]
  · refine (hseq (w.heap.size + 1) (fun k W => I k W ∧ Recs rec w.heap.size .ready none W) (fun _ W => Ix () W ∧ Recs rec w.heap.size .done (some .ret) W) W1 hb1 ?_ ⟨hI1, hR1⟩).mono ?_
    · rintro k x W hx ⟨hi, hR⟩
      have hy := run_yield (P := P) (args := encs x) hR.lp (by rw [hrec]; exact hps x)
      rw [hrec] at hy
      refine ⟨fn, _, assign, body, hy, roundIn_of_wpIn hfn (wpIn_mono (hassign _ k x W hx hi) ?_)⟩
      clear hy
      rintro e a1 Wa he
      cases e with
      | normal =>
        obtain ⟨hk1, hq1, hm1⟩ := he
        have hRa := hR.kept hk1
        have hlt : w.heap.size + 1 < Wa.heap.size := (Array.getElem?_eq_some_iff.1 hRa.lp).1
        refine ⟨Wa.putObj (w.heap.size + 1) (.loop (rec .busy none)), by have := run_beginRound (P := P) hRa.lp (by rw [hrec]); rw [hrec] at this ⊢; exact this, ?_⟩
        have hRb := hRa.put .busy none
        have hq2 := hKb Wa (w.heap.size + 1) _ (.loop (rec .busy none)) (by omega) hRa.lp rfl rfl
        refine wpIn_mono (hbody _ k x a1 _ hx ((hM k x a1).putObj (s := ()) _ hm1 (by omega) hRa.lp rfl)) ?_
        rintro e2 a2 W3 he2
        have fin : ∀ (jump : Option Code), KeepsFrom w.heap.size (Wa.putObj (w.heap.size + 1) (.loop (rec .busy none))) W3 → (Instr.endRound (w.heap.size + 1) jump).run P W3 = .ok (.bool jump.isNone) (W3.putObj (w.heap.size + 1) (.loop (rec (if jump.isNone then .ready else .done) jump))) := fun jump hk => by
          have := run_endRound (P := P) jump (hRb.kept hk).lp
          rw [hrec] at this ⊢
          exact this
        cases e2 with
        | normal =>
          obtain ⟨hk3, hq3, hi3⟩ := he2
          have hR3 := hRb.kept hk3
          exact ⟨_, _, fin none hk3, .inl ⟨rfl, ⟨hR3.own hI hi3 _, hR3.put .ready none⟩, hKt hq1 (hKt (hKt hq2 hq3) (hKb _ _ _ _ (by omega) hR3.lp rfl rfl))⟩⟩
        | ret =>
          obtain ⟨hk3, hi3⟩ := he2
          have hR3 := hRb.kept hk3
          exact ⟨_, _, fin (some .ret) hk3, .inr ⟨rfl, hR3.own hIx hi3 _, hR3.put .done (some .ret)⟩⟩
        | exit id => exact he2.elim
        | goto t => exact he2.elim
        | panic ch => exact he2.elim
        | outgrown => exact he2.elim
      | ret => exact he.elim
      | exit id => exact he.elim
      | goto t => exact he.elim
      | panic ch => exact he.elim
      | outgrown => exact he.elim
    · rintro e W2 ⟨⟨v, rfl⟩, ⟨hi, hR⟩ | ⟨_, hi, hR⟩⟩
      · exact ⟨none, _, by have := run_endLoop (P := P) hR.lp (by rw [hrec]; simp); rw [hrec] at this; exact this, hdone _ _ (Nat.le_refl _) (hR.own hI hi _) ((World.putObj_heap_other (by omega)).trans hR.df)⟩
      · exact ⟨some .ret, _, by have := run_endLoop (P := P) hR.lp (by rw [hrec]; simp); rw [hrec] at this; exact this, hstop _ _ (Nat.le_refl _) (hR.own hIx hi _) ((World.putObj_heap_other (by omega)).trans hR.df)⟩
end
end Go.Proofs.YtkcmfldcdokobaaGreatDoor

/- What was laid and put is given back, the last one first. -/
namespace Go.Proofs.YtkcmfldcdokobaaGreatDoor
open Go.RowKit Go.Maps Go.Shelf
attribute [local go_sem] Oper.semAt_some

section
variable {w0 w w' : World} {col : Nat → Nat} {lb hb ab tb bb least N mb : Nat} {sv : Value} {sl : List (Int × Bool)} {names : List ByteArray} {S0 S : St}
/-- between two rounds: k of them are given back -/
def GiveI (w0 w : World) (col : Nat → Nat) (lb hb ab tb bb : Nat) (sv : Value) (least : Nat) (sl : List (Int × Bool)) (names : List ByteArray) (N : Nat) (S0 S : St) (obj : Obj) (Q : Nat → Prop) (k : Nat) (W : World) : Prop :=
  ∃ col' A' a' Sk, (Go0 col w col' W ∧ CellsFrom col' W w.heap.size ∧ Hs w0 W col' hb ab tb bb sv least sl A' names (N + k) a') ∧ ((Steps names S0 Sk ∧ Sk.K ≤ S.K) ∧ Sk.tks = S.tks.take (S.tks.length - k) ∧ k ≤ S.tks.length ∧ ALike Sk.A A' ∧ BLike Sk.a a') ∧
    W.heap[lb]? = some obj ∧ ∀ q, Q q → col' q = 0 ∨ col' q = 5
theorem giveI_own {obj : Obj} {Q : Nat → Prop} (hl : lb < w.heap.size) (h0 : w0.heap.size ≤ w.heap.size) (hQ : ∀ q, Q q → q < w.heap.size) : OwnFrom w.heap.size (fun k W => GiveI w0 w col lb hb ab tb bb sv least sl names N S0 S obj Q k W) := by
  rintro s W W' row ⟨col', A', a', Sk, ⟨h1, h2, h3⟩, h4, h5, h6⟩ hg hr
  obtain ⟨hk, hG, hcf⟩ := h2.col0 hr hg
  have hz := h1.2.size
  refine ⟨recol col' W 0, A', a', Sk, ⟨h1.aside hk fun q e hq => (hG q e hq).2, hcf, h3.aside hk fun q e hq => ⟨(hG q e hq).1, Nat.le_trans h0 (hG q e hq).2⟩⟩, h4, ?_, fun q hq => ?_⟩
  · refine (hk.block lb (by omega) fun e => ?_).trans h5
    have := (hr lb e).1
    omega
  · unfold recol
    rw [if_pos (by have := hQ q hq; omega)]
    exact h6 q hq

theorem row_words {l : List Int} {v : Value} {base : Nat} (h : w.ownsRow base 27 1 v l.length (words l)) {G : Nat → Prop} (hG : ∀ g, v.ownBlock = some g → G g) : WordsAt G w l v := by
  obtain ⟨po, cap, rfl⟩ := slice_form h
  have hc : l.length ≤ cap := by
    rcases h.2 with ⟨e, h0⟩ | ⟨g, cap', cur, e, _, _, hn, _⟩
    · omega
    · injection e with _ _ e
      omega
  refine ⟨po, cap, rfl, hc, fun i x hi => ?_⟩
  have hlt := (List.getElem?_eq_some_iff.1 hi).1
  rcases h.2 with ⟨_, h0⟩ | ⟨g, cap', cur, e, _⟩
  · omega
  · injection e with e _ _
    subst e
    refine ⟨g, 0, rfl, hG g rfl, ?_⟩
    rw [Nat.zero_add]
    refine (h.cellAt i (by omega)).trans ?_
    simp [words, hi]
theorem Steps.idle (h : Steps names S0 S) (h1 : S.tks = []) : S.A = S0.A ∧ S.a = S0.a := by
  induction h with
  | none => exact ⟨rfl, rfl⟩
  | block _ _ hb ih =>
    obtain ⟨own, A', _, _, rfl⟩ := hb
    simp at h1
  | put _ _ ih => simp at h1
  | name _ _ _ _ ih => exact ih h1
  | more _ ih => exact ih h1
theorem Steps.mono (h : Steps names S0 S) : S0.K ≤ S.K := by
  induction h with
  | none => exact Nat.le_refl _
  | block _ _ hb ih =>
    obtain ⟨own, _, _, _, rfl⟩ := hb
    exact Nat.le_succ_of_le ih
  | put _ _ ih => exact Nat.le_succ_of_le ih
  | name _ _ _ _ ih => exact Nat.le_succ_of_le ih
  | more _ ih => exact Nat.le_succ_of_le ih
/-- one more is given back -/
theorem GiveI.next {obj : Obj} {Q : Nat → Prop} {k i : Nat} {W W' : World} {col' : Nat → Nat} {A2 : Ar} {a2 : Bn} {Sm : St} (hlb : col lb = 5 ∧ lb < w.heap.size) (h0 : w0.heap.size ≤ w.heap.size) (hQ : ∀ q, Q q → q < w.heap.size)
    (g1 : Go0 col w col' W) (g2 : CellsFrom col' W w.heap.size) (hi : i = 2 ∨ i = 4) (hk : Kp (Fi col' W i) W W') (hH : Hs w0 W' (recol col' W i) hb ab tb bb sv least sl A2 names (N + (k + 1)) a2) (hs : Steps names S0 Sm ∧ Sm.K ≤ S.K) (ht : Sm.tks = S.tks.take (S.tks.length - (k + 1))) (hkl : k + 1 ≤ S.tks.length)
    (hA : ALike Sm.A A2) (hB : BLike Sm.a a2) (ho : W.heap[lb]? = some obj) (g6 : ∀ q, Q q → col' q = 0 ∨ col' q = 5) : KeepsFrom w.heap.size W W' ∧ KeepQ Q W W' ∧ GiveI w0 w col lb hb ab tb bb sv least sl names N S0 S obj Q (k + 1) W' := by
  have hz := g1.2.size
  have hg := g1.trans (Go0.of (i := i) (by omega) hk)
  have hlo : ∀ q, q < w.heap.size → cellcol (recol col' W i) W' w.heap.size q = col' q := fun q hq => by
    rw [cellcol_low hq]
    unfold recol
    rw [if_pos (by omega)]
  refine ⟨g2.keeps hk (fun q e _ => by have := e.1; omega), hk.mono fun q _ e hq => by have := e.1; rcases g6 q hq with h | h <;> omega, _, A2, a2, Sm, ⟨hg.cells (Nat.le_refl _), cellcol_from, hH.cells hg.no3 h0⟩, ⟨hs, ht, hkl, hA, hB⟩, ?_, fun q hq => ?_⟩
  · refine (hk.block lb (by omega) fun e => ?_).trans ho
    have h1 := e.1
    have h2 := g1.1 lb hlb.2
    omega
  · rw [hlo q (hQ q hq)]
    exact g6 q hq

set_option maxRecDepth 100000 in
set_option maxHeartbeats 2000000 in
theorem lgive_any (h : LAt w0 w col lb hb ab tb bb sv least sl names N mb S) (hs : Steps names S0 S) (h0 : S0.tks = []) (hI : Inv S0.A []) (hB : BInv (N + S0.K) S0.a) (hK : S.K ≤ 1000000) (hN : N ≤ 80000000000000) :
    Calls Tryz.prog 48 #[.pointer (some ⟨lb, 0, none⟩)] w fun e w' => e = .returned (.tuple #[]) ∧
      ∃ col' A' a', Go0 col w col' w' ∧ ALike S0.A A' ∧ BLike S0.a a' ∧ Hs w0 w' col' hb ab tb bb sv least sl A' names (N + 3000000) a' := by
  obtain ⟨tv, fv, nn, D, ks, h1, h2, h3⟩ := h
  obtain ⟨c0, c1, _, _, c4⟩ := h2.cells
  have hrow := h2.tk
  obtain ⟨po, cap, rfl⟩ := slice_form hrow
  have hL := h3.tks
  obtain ⟨T, hT⟩ : ∃ T, S.tks.length = T := ⟨_, rfl⟩
  rw [hT] at hL c1
  have hka : Kp (fun _ => False) w (w.alloc (.cells #[.pointer (some ⟨lb, 0, none⟩)] 162)) := (Kp.refl _ w).alloc _
  have hbl := h2.lt lb h2.inG
  have d1 : (w.alloc (.cells #[.pointer (some ⟨lb, 0, none⟩)] 162)).cell? ⟨lb, 1, none⟩ = some (.slice po T cap) := (hka.cell (p := ⟨lb, 1, none⟩) hbl (fun e => e)).trans c1
  have H := Lib.hid (And.intro h1 (And.intro h2 (And.intro hs (And.intro h0 (And.intro hI (And.intro hB (And.intro hT hka)))))))
  clear h1 h2 h3 hs h0 hI hB hrow hT c0 c1 c4 hka
  refine (callsIn_wide (n := 5)).1 (callsIn_of_wp_marks Tryz.func48 rfl trivial ?_ rfl)
  simp only [Tryz.ntmps48, List.size_toArray, List.length_cons, List.length_nil, Nat.reduceAdd, Nat.reduceSub, Array.replicate_succ, Array.replicate_zero, List.push_toArray, List.append_toArray, List.nil_append, List.cons_append]
  gi_wp2_with (refine ⟨trivial, ?_⟩; gi_at_call 89; refine (backward_words _ _ _ _ _).mono ?_; rintro e w1 ⟨rfl, hw1⟩)
  obtain ⟨w1, hw1⟩ : ∃ w1, ((w.alloc (.cells #[.pointer (some ⟨lb, 0, none⟩)] 162)).alloc (.cells #[.slice po T cap] 34)) = w1 := ⟨_, rfl⟩
  rw [hw1]
  have hk1 : Kp (fun _ => False) w w1 := by rw [← hw1]; exact H.out.2.2.2.2.2.2.2.alloc _
  have hbox : w1.cell? ⟨w.heap.size + 1, 0, none⟩ = some (.slice po T cap) := by
    rw [← hw1]
    have := heap_alloc_new (w.alloc (.cells #[.pointer (some ⟨lb, 0, none⟩)] 162)) (.cells #[.slice po T cap] 34)
    rw [World.size_alloc] at this
    exact cell_of this 0
  have hlv : w1.heap[w.heap.size]? = some (.cells #[.pointer (some ⟨lb, 0, none⟩)] 162 (0, 0)) := by
    rw [← hw1, Below.heap_alloc _ _ _ (by simp)]
    exact heap_alloc_new w _
  have hz1 : w1.heap.size = w.heap.size + 2 := by rw [← hw1]; simp
  clear hw1
  have h1 := H.out.1.same hk1
  have h2 := H.out.2.1.same hk1
  have hT := H.out.2.2.2.2.2.2.1
  have hrow := h2.tk
  rw [hT] at hrow
  obtain ⟨Q, hQd⟩ : ∃ Q : Nat → Prop, Q = fun q => q = w.heap.size + 1 ∨ q = w.heap.size ∨ (Value.slice po T cap).ownBlock = some q := ⟨_, rfl⟩
  have hQ : ∀ q, Q q → q < w1.heap.size := fun q hq => by
    rw [hQd] at hq
    rcases hq with rfl | rfl | hq
    · omega
    · omega
    · exact (hrow.lt q hq).2
  have hQc : ∀ q, Q q → recol col w 0 q = 0 ∨ recol col w 0 q = 5 := fun q hq => by
    rw [hQd] at hq
    rcases hq with rfl | rfl | hq
    · exact .inl (recol_new _ (by omega))
    · exact .inl (recol_new _ (by omega))
    · exact .inr (h2.tkG q (by rw [hT]; exact hq)).1.1
  have hW : WordsAt Q w1 S.tks (.slice po T cap) := row_words (by rw [hT]; exact hrow) fun g hg => by rw [hQd]; exact .inr (.inr hg)
  have hlb : recol col w 0 lb = 5 ∧ lb < w1.heap.size := h2.inG
  have h0z : w0.heap.size ≤ w1.heap.size := h1.kp.size
  have HQ := Lib.hid (And.intro hQ (And.intro hQc (And.intro hlb (And.intro h0z (And.intro h1 (And.intro h2 (And.intro (Go0.same (col := col) hk1) hQd)))))))
  have hstart : GiveI w0 w1 (recol col w 0) lb hb ab tb bb sv least sl names (N + S.K) S0 S (.cells #[.pointer (some ⟨hb, 0, none⟩), .slice po S.tks.length cap, .map (some mb), fv] 94 (0, 0)) Q 0 w1 := by
    have h3 : ∀ q, w1.heap.size ≤ q → recol col w 0 q ≠ 3 := fun q hq => by rw [recol_new q (by omega)]; omega
    refine ⟨cellcol (recol col w 0) w1 w1.heap.size, S.A, S.a, S, ⟨⟨fun q hq => cellcol_low hq, Kp.refl _ _, fun q hq => ?_⟩, cellcol_from, ?_⟩, ⟨⟨H.out.2.2.1, Nat.le_refl _⟩, by simp, Nat.zero_le _, ALike.refl _, BLike.refl _⟩, h2.hd, fun q hq => ?_⟩
    · unfold cellcol
      split
      · omega
      · exact h3 q hq
    · exact h1.cells h3 h0z
    · rw [cellcol_low (hQ q hq)]
      exact hQc q hq
  refine wpIn_hands (by omega) (gf := 135) (lb := #[.pointer (some ⟨w.heap.size + 1, 0, none⟩)]) rfl (enters_of Tryz.func135 (by kernel_rfl) rfl)
    (hands_words 4 (by omega) (w.heap.size + 1) (.slice po T cap) S.tks (by omega) Q w1 hQ (by rw [hQd]; exact .inl rfl) hbox hW) KeepQ.t (KeepQ.b hQ) (Below.refl _ _) (fun _ => rfl)
    (fun k W => GiveI w0 w1 (recol col w 0) lb hb ab tb bb sv least sl names (N + S.K) S0 S (.cells #[.pointer (some ⟨hb, 0, none⟩), .slice po S.tks.length cap, .map (some mb), fv] 94 (0, 0)) Q k W ∧ W.heap[w.heap.size]? = some (.cells #[.pointer (some ⟨lb, 0, none⟩)] 162 (0, 0))) (fun _ _ => False)
    (fun k x a' W => a' = { tmps := #[.pointer (some ⟨lb, 0, none⟩), .pointer (some ⟨w.heap.size, 0, none⟩), undef, .int .u64 x.2, undef, .pointer (some ⟨lb, 0, none⟩), .pointer (some ⟨lb, 0, none⟩), .pointer (some ⟨lb, 1, none⟩), .slice po T cap, .func (.func 135) #[] #[.pointer (some ⟨w.heap.size + 1, 0, none⟩)], .int .i64 (x.1 : Int), .int .u64 x.2, undef, undef, undef, undef, undef, undef, undef, undef, undef, undef, undef, undef, undef, undef, undef, undef, undef, undef, undef, undef, undef, undef, undef, undef], defers := [] } ∧ (GiveI w0 w1 (recol col w 0) lb hb ab tb bb sv least sl names (N + S.K) S0 S (.cells #[.pointer (some ⟨hb, 0, none⟩), .slice po S.tks.length cap, .map (some mb), fv] 94 (0, 0)) Q k W ∧ W.heap[w.heap.size]? = some (.cells #[.pointer (some ⟨lb, 0, none⟩)] 162 (0, 0)))) ?ownI (fun _ _ _ _ h _ _ => h) ?ownM ⟨hstart, hlv⟩ ?assign ?body ?done ?stop
  case ownI =>
    rintro k W W' row ⟨h1, h2⟩ hg hr
    refine ⟨giveI_own hlb.2 h0z hQ k W W' row h1 hg hr, (hg.block _ (Array.getElem?_eq_some_iff.1 h2).1 fun e => ?_).trans h2⟩
    have := (hr _ e.symm).1
    omega
  case ownM =>
    rintro k x a' _ W W' row ⟨h0, h1, h2⟩ hg hr
    refine ⟨h0, giveI_own hlb.2 h0z hQ k W W' row h1 hg hr, (hg.block _ (Array.getElem?_eq_some_iff.1 h2).1 fun e => ?_).trans h2⟩
    have := (hr _ e.symm).1
    omega
  case assign =>
    rintro l k x W hx hi
    gi_wp2
    exact ⟨KeepsFrom.refl _ _, Kp.refl _ _, by first | trivial | rfl, hi⟩
  case body =>
    rintro l k x a' W hx ⟨rfl, hi, hv⟩
    obtain ⟨hkl, rfl⟩ := downs_get hx
    obtain ⟨col', A', a', Sk, ⟨g1, g2, g3⟩, ⟨s1, s2, s3, s4, s5⟩, g5, g6⟩ := hi
    obtain ⟨y, hy⟩ : ∃ y, S.tks[S.tks.length - 1 - k]? = some y := ⟨_, List.getElem?_eq_getElem (by omega)⟩
    have htk : Sk.tks = S.tks.take (S.tks.length - (k + 1)) ++ [y] := by
      rw [s2, show S.tks.length - k = S.tks.length - (k + 1) + 1 by omega, List.take_add_one, show S.tks.length - (k + 1) = S.tks.length - 1 - k by omega, hy]
      rfl
    have hv0 : W.cell? ⟨w.heap.size, 0, none⟩ = some (.pointer (some ⟨lb, 0, none⟩)) := cell_of hv 0
    have hl0 : W.cell? ⟨lb, 0, none⟩ = some (.pointer (some ⟨hb, 0, none⟩)) := cell_of g5 0
    obtain ⟨e0, _, e2, _⟩ := g3.hr.cells
    dsimp only
    rw [hy, Option.getD_some]
    have hvk : ∀ W' i, i ≠ 0 → Kp (Fi col' W i) W W' → W'.heap[w.heap.size]? = some (.cells #[.pointer (some ⟨lb, 0, none⟩)] 162 (0, 0)) := fun W' i hi hk => by
      refine (hk.block _ (Array.getElem?_eq_some_iff.1 hv).1 fun e => hi ?_).trans hv
      have h1 := e.1
      have h2 := g1.1 w.heap.size (by omega)
      rw [recol_new _ (Nat.le_refl _)] at h2
      omega
    obtain ⟨Sm, m1, m2, hm⟩ := s1.1.last H.out.2.2.2.1 htk
    replace m1 : Steps names S0 Sm ∧ Sm.K ≤ S.K := ⟨m1.1, Nat.le_trans m1.2 s1.2⟩
    rcases hm with ⟨ws, own, hwl, rfl, hla, hae⟩ | ⟨bs, m, rfl, hp, hAe⟩
    · have hIm := m1.1.inv H.out.2.2.2.2.1
      have hlt := hla.to hIm hwl
      have hro := hla.room hIm hwl
      obtain ⟨hB1, hB2⟩ := hlt.undo s4
      have b1 : bits BinOp.and IntKind.u64 (((own : Nat) + 1 : Int) * 8 + 5) 7 = 5 := by rw [and_low3 _ (by omega) (by omega)]; omega
      have b2 : (((own : Nat) + 1 : Int) * 8 + 5) / 8 = (own : Int) + 1 := by omega
      obtain ⟨yy, hyy, y0, y1⟩ : ∃ yy, (((own : Nat) + 1 : Int) * 8 + 5) = yy ∧ 0 ≤ yy ∧ yy ≤ 18446744073709551615 := ⟨_, rfl, by omega, by omega⟩
      rw [hyy] at b1 b2 ⊢
      have HE := Lib.hid (And.intro (And.intro g1 (And.intro g2 g3)) (And.intro (And.intro g5 g6) (And.intro hvk (And.intro hB1 (And.intro hB2 (And.intro m1 (And.intro m2 (And.intro (hae ▸ s5) (And.intro hkl hro)))))))))
      clear g1 g2 g3 g5 g6 s1 s2 s3 s4 s5 hv hvk hB1 hB2 m1 m2 hae hla hlt hIm htk hyy hy hx hro
      gi_wp2_with (refine ⟨trivial, ?_⟩; gi_at_call 91; refine (CallsIn.inRound l (callsIn_wide.2 (free_word HE.out.1.2.2.ar HE.out.1.2.2.notA HE.out.2.2.2.1))).mono ?_; rintro e W3 ⟨rfl, hA3, hk3⟩)
      obtain ⟨⟨g1, g2, g3⟩, ⟨g5, g6⟩, hvk, hB1, hB2, m1, m2, s5, hkl, hro⟩ := HE.out
      have h4 := g3.stepA hA3 hk3
      obtain ⟨q1, q2, q3⟩ := GiveI.next (N := N + S.K) hlb h0z hQ g1 g2 (.inl rfl) hk3 ⟨h4.hr, h4.ar, h4.at', h4.bn, h4.bi.mono (by omega), h4.old, h4.kp⟩ m1 m2 (by omega) hB2 s5 g5 g6
      exact ⟨q1, q2, q3, hvk W3 2 (by omega) hk3⟩
    · have hBm := m1.1.binv H.out.2.2.2.2.2.1
      have hkm := m1.2
      have hm2 : m ≤ 1000000000000000000 := hp.small (hBm (by omega)) (by omega)
      obtain ⟨pi, pg, hpi⟩ := hp.is (hBm (by omega))
      have b1 : bits BinOp.and IntKind.u64 ((m : Int) * 8 + 6) 7 = 6 := by rw [and_low3 _ (by omega) (by omega)]; omega
      have b2 : ((m : Int) * 8 + 6) / 8 = (m : Int) := by omega
      obtain ⟨yy, hyy, y0, y1⟩ : ∃ yy, ((m : Int) * 8 + 6) = yy ∧ 0 ≤ yy ∧ yy ≤ 18446744073709551615 := ⟨_, rfl, by omega, by omega⟩
      rw [hyy] at b1 b2 ⊢
      have HE := Lib.hid (And.intro (And.intro g1 (And.intro g2 g3)) (And.intro (And.intro g5 g6) (And.intro hvk (And.intro hpi (And.intro s5 (And.intro m1 (And.intro m2 (And.intro (hAe ▸ s4) hkl))))))))
      clear g1 g2 g3 g5 g6 s1 s2 s3 s4 s5 hv hvk m1 m2 hAe hp hpi hBm htk hyy hy hx hkm
      gi_wp2_with (refine ⟨trivial, ?_⟩; gi_at_call 90; refine (CallsIn.inRound l (callsIn_wide.2 (drop_any HE.out.1.2.2.bn HE.out.1.2.2.bi (by omega) (m : Int) (by omega) (by omega)))).mono ?_; rintro e W3 ⟨v, a2, rfl, hd3, hI3, hg3⟩)
      obtain ⟨⟨g1, g2, g3⟩, ⟨g5, g6⟩, hvk, hpi, s5, m1, m2, s4, hkl⟩ := HE.out
      have h4 := g3.stepB hg3 hI3
      obtain ⟨q1, q2, q3⟩ := GiveI.next (N := N + S.K) hlb h0z hQ g1 g2 (.inr rfl) hg3.1 ⟨h4.hr, h4.ar, h4.at', h4.bn, h4.bi.mono (by omega), h4.old, h4.kp⟩ m1 m2 (by omega) s4 (hpi.undo s5 hd3) g5 g6
      exact ⟨q1, q2, q3, hvk W3 4 (by omega) hg3.1⟩
  case done =>
    rintro D W hD ⟨⟨col', A', a', Sk, ⟨g1, g2, g3⟩, ⟨s1, s2, s3, s4, s5⟩, g5, g6⟩, hv⟩ hK
    rw [downs_length, Nat.sub_self, List.take_zero] at s2
    obtain ⟨i1, i2⟩ := s1.1.idle s2
    rw [i1] at s4
    rw [i2] at s5
    have hgD := grownBy_putObj' W D (.deferred none)
    obtain ⟨k1, k2, k3⟩ := g2.col0 (row := some D) (fun r e => by cases e; exact ⟨hD, _, hK, rfl⟩) hgD
    have HF := Lib.hid (And.intro ((HQ.out.2.2.2.2.2.2.1.trans g1).aside k1 (fun q e hq => by have := (k2 q e hq).2; omega)) (And.intro s4 (And.intro s5 (g3.aside k1 (fun q e hq => by have := k2 q e hq; exact ⟨this.1, by omega⟩)))))
    have hKl : (downs (fun j => (j, S.tks[j]?.getD 0)) S.tks.length S.tks.length).length ≤ 1000000 := by rw [downs_length]; omega
    clear g1 g2 g3 s1 s2 s3 s4 s5 g5 g6 hv k1 k2 k3 hgD i1 i2
    gi_wp2
    refine ⟨by simp, .inl ⟨_, _, rfl, run_takeDeferred hK, ?_⟩⟩
    obtain ⟨f1, f2, f3, f4⟩ := HF.out
    refine ⟨_, results_none rfl _ _ _, rfl, _, _, _, f1, f2, f3, ⟨f4.hr, f4.ar, f4.at', f4.bn, f4.bi.mono (by omega), f4.old, f4.kp⟩⟩
  case stop =>
    rintro D W _ h _
    exact h.elim
end
end Go.Proofs.YtkcmfldcdokobaaGreatDoor
