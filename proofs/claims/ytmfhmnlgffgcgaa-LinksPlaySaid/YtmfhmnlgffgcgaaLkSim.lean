/- Both nets side by side, beside the caller's blocks. -/
import Derived.Test.YtmfhmnlgffgcgaaLkRef8
import Derived.Test.YtmfhmnlgffgcgaaLkLaw
namespace Go.Proofs.Ytmfhmnlgffgcgaa
open Go.RowKit
set_option linter.unusedVariables false

/-- the blocks of the document's net -/
def X3 (b2 : Nat) (vl vm : Value) : Nat → Prop := fun q => q = b2 ∨ vl.ownBlock = some q ∨ vm.ownBlock = some q
/-- both nets, newer than w0; C: the caller's blocks -/
def PN (w0 : World) (C : Nat → Prop) (w : World) (b1 b2 : Nat) (ls1 : List (Int × Int)) (ms1 : List Mo) (n1 : Nat) (ls2 : List (Int × Int)) (ms2 : List Mo) (n2 : Nat) : Prop :=
  ∃ vl vm, NS w0 (fun q => C q ∨ X3 b2 vl vm q) w b1 ls1 ms1 n1 ∧ RNt w b2 vl vm ls2 ms2 n2 ∧ ∀ q, X3 b2 vl vm q → w0.heap.size ≤ q ∧ ¬ C q
/-- what a way of one of them leaves -/
def PTo (w0 : World) (C : Nat → Prop) (w : World) (b1 b2 : Nat) (ls1 : List (Int × Int)) (ms1 : List Mo) (n1 : Nat) (ls2 : List (Int × Int)) (ms2 : List Mo) (n2 : Nat) (v : Value) (e : Ending) (w' : World) : Prop :=
  e = .returned v ∧ PN w0 C w' b1 b2 ls1 ms1 n1 ls2 ms2 n2 ∧ Kp (fun q => ¬ C q) w w'
section
variable {C C' F : Nat → Prop} {w0 w w' : World} {b1 b2 n n1 n2 : Nat} {ls ls1 ls2 : List (Int × Int)} {ms ms1 ms2 : List Mo} {a x r : Int} {v : Value}
theorem PN.put (h : PN w0 C w b1 b2 ls1 ms1 n1 ls2 ms2 n2) (hk : Kp (fun _ => False) w w') (hC : ∀ q, C' q → C q ∨ (w.heap.size ≤ q ∧ q < w'.heap.size)) : PN w0 C' w' b1 b2 ls1 ms1 n1 ls2 ms2 n2 := by
  obtain ⟨vl, vm, h1, h2, h3⟩ := h
  refine ⟨vl, vm, h1.put hk (fun q hq => ?_), h2.same hk, fun q hq => ⟨(h3 q hq).1, fun e => ?_⟩⟩
  · rcases hq with hq | hq
    · exact (hC q hq).imp .inl (fun e => e)
    · exact .inl (.inr hq)
  · rcases hC q e with e2 | e2
    · exact (h3 q hq).2 e2
    · have := h2.lt hq
      omega
theorem PN.same (h : PN w0 C w b1 b2 ls1 ms1 n1 ls2 ms2 n2) (hk : Kp (fun _ => False) w w') : PN w0 C w' b1 b2 ls1 ms1 n1 ls2 ms2 n2 := h.put hk (fun _ e => .inl e)
theorem PN.less (h : PN w0 C w b1 b2 ls1 ms1 n1 ls2 ms2 n2) (hC : ∀ q, C' q → C q) : PN w0 C' w b1 b2 ls1 ms1 n1 ls2 ms2 n2 := h.put (Kp.refl _ _) (fun q e => .inl (hC q e))
theorem PN.kp0 (h : PN w0 C w b1 b2 ls1 ms1 n1 ls2 ms2 n2) : Kp (fun _ => False) w0 w := by obtain ⟨vl, vm, h1, -⟩ := h; exact h1.kp0
theorem PN.ok (h : PN w0 C w b1 b2 ls1 ms1 n1 ls2 ms2 n2) : LkOk ls1 := by obtain ⟨vl, vm, h1, -⟩ := h; exact h1.ok
theorem PN.mok (h : PN w0 C w b1 b2 ls1 ms1 n1 ls2 ms2 n2) : MoOk n1 ms1 := by obtain ⟨vl, vm, h1, -⟩ := h; exact h1.mok
theorem PN.ltC (h : PN w0 C w b1 b2 ls1 ms1 n1 ls2 ms2 n2) : ∀ q, C q → q < w.heap.size := by
  obtain ⟨vl, vm, h1, -⟩ := h
  exact fun q hq => h1.clt q (.inl hq)
/-- the first net is turned -/
theorem pn_one {vl vm : Value} (h2 : RNt w b2 vl vm ls2 ms2 n2) (h3 : ∀ q, X3 b2 vl vm q → w0.heap.size ≤ q ∧ ¬ C q) (h1 : NS w0 (fun q => C q ∨ X3 b2 vl vm q) w' b1 ls1 ms1 n1) (hk : Kp (fun q => ¬ (C q ∨ X3 b2 vl vm q)) w w') :
    PN w0 C w' b1 b2 ls1 ms1 n1 ls2 ms2 n2 ∧ Kp (fun q => ¬ C q) w w' :=
  ⟨⟨vl, vm, h1, h2.kp hk (fun e => e (.inr (.inl rfl))) (fun g hg e => e (.inr (.inr (.inl hg)))) (fun g hg e => e (.inr (.inr (.inr hg)))), h3⟩, hk.mono fun q _ e e2 => e (.inl e2)⟩
/-- the second net is turned -/
theorem pn_two {vl vm vl' vm' : Value} (h1 : NS w0 (fun q => C q ∨ X3 b2 vl vm q) w b1 ls1 ms1 n1) (h3 : ∀ q, X3 b2 vl vm q → w0.heap.size ≤ q ∧ ¬ C q) (h2 : RNt w' b2 vl' vm' ls2 ms2 n2) (hk : Kp (X3 b2 vl vm) w w') (hl : ∀ g, vl'.ownBlock = some g → vl.ownBlock = some g ∨ w.heap.size ≤ g) (hm : ∀ g, vm'.ownBlock = some g → vm.ownBlock = some g ∨ w.heap.size ≤ g) :
    PN w0 C w' b1 b2 ls1 ms1 n1 ls2 ms2 n2 ∧ Kp (fun q => ¬ C q) w w' := by
  have hz := h1.kp0.size
  have hn : ∀ q, X3 b2 vl' vm' q → X3 b2 vl vm q ∨ w.heap.size ≤ q := by
    intro q hq
    rcases hq with rfl | e | e
    · exact .inl (.inl rfl)
    · exact (hl q e).imp (fun e => .inr (.inl e)) id
    · exact (hm q e).imp (fun e => .inr (.inr e)) id
  refine ⟨⟨vl', vm', h1.turn hk (fun q hq => ⟨.inr hq, (h3 q hq).1⟩) (fun q hq => ?_), h2, fun q hq => ?_⟩, hk.mono fun q _ e => (h3 q e).2⟩
  · rcases hq with hq | hq
    · exact .inl (.inl hq)
    · rcases hn q hq with e | e
      · exact .inl (.inr e)
      · exact .inr ⟨e, h2.lt hq⟩
  · rcases hn q hq with e | e
    · exact h3 q e
    · exact ⟨by omega, fun e2 => by have := h1.clt q (.inl e2); omega⟩
/-- the second net is turned, and the caller has new blocks -/
theorem pn_two' {vl vm vl' vm' : Value} (h1 : NS w0 (fun q => C q ∨ X3 b2 vl vm q) w b1 ls1 ms1 n1) (h3 : ∀ q, X3 b2 vl vm q → w0.heap.size ≤ q ∧ ¬ C q) (h2 : RNt w' b2 vl' vm' ls2 ms2 n2) (hk : Kp (X3 b2 vl vm) w w') (hl : ∀ g, vl'.ownBlock = some g → vl.ownBlock = some g ∨ w.heap.size ≤ g) (hm : ∀ g, vm'.ownBlock = some g → vm.ownBlock = some g ∨ w.heap.size ≤ g)
    (hC : ∀ q, C' q → C q ∨ (w.heap.size ≤ q ∧ q < w'.heap.size)) (hd : ∀ q, X3 b2 vl' vm' q → ¬ C' q) :
    PN w0 C' w' b1 b2 ls1 ms1 n1 ls2 ms2 n2 ∧ Kp (fun q => ¬ C q) w w' := by
  have hz := h1.kp0.size
  have hn : ∀ q, X3 b2 vl' vm' q → X3 b2 vl vm q ∨ w.heap.size ≤ q := by
    intro q hq
    rcases hq with rfl | e | e
    · exact .inl (.inl rfl)
    · exact (hl q e).imp (fun e => .inr (.inl e)) id
    · exact (hm q e).imp (fun e => .inr (.inr e)) id
  refine ⟨⟨vl', vm', h1.turn hk (fun q hq => ⟨.inr hq, (h3 q hq).1⟩) (fun q hq => ?_), h2, fun q hq => ⟨?_, hd q hq⟩⟩, hk.mono fun q _ e => (h3 q e).2⟩
  · rcases hq with hq | hq
    · exact (hC q hq).imp .inl id
    · rcases hn q hq with e | e
      · exact .inl (.inr e)
      · exact .inr ⟨e, h2.lt hq⟩
  · rcases hn q hq with e | e
    · exact (h3 q e).1
    · omega
theorem p1_of {f : FuncId} {xs : Array Value} {L : List (Int × Int)} {M : List Mo} {N : Nat} (h : PN w0 C w b1 b2 ls1 ms1 n1 ls2 ms2 n2) (hc : ∀ C', NS w0 C' w b1 ls1 ms1 n1 → Calls Try.prog f xs w (NsTo w0 C' w b1 L M N v)) :
    Calls Try.prog f xs w (PTo w0 C w b1 b2 L M N ls2 ms2 n2 v) := by
  obtain ⟨vl, vm, h1, h2, h3⟩ := h
  refine (hc _ h1).mono ?_
  rintro e w' ⟨he, h4, h5⟩
  exact ⟨he, pn_one h2 h3 h4 h5⟩
theorem p2_of {f : FuncId} {xs : Array Value} {L : List (Int × Int)} {M : List Mo} {N : Nat} (h : PN w0 C w b1 b2 ls1 ms1 n1 ls2 ms2 n2) (hc : ∀ vl vm, RNt w b2 vl vm ls2 ms2 n2 → Calls Try.prog f xs w (RTo w b2 vl vm L M N v)) :
    Calls Try.prog f xs w (PTo w0 C w b1 b2 ls1 ms1 n1 L M N v) := by
  obtain ⟨vl, vm, h1, h2, h3⟩ := h
  refine (hc _ _ h2).mono ?_
  rintro e w' ⟨he, vl', vm', h4, h5, h6, h7⟩
  exact ⟨he, pn_two h1 h3 h4 h7 h5 h6⟩
theorem p1_q {f : FuncId} {xs : Array Value} {Q : Ending → World → Prop} (h : PN w0 C w b1 b2 ls1 ms1 n1 ls2 ms2 n2) (hc : ∀ C', NS w0 C' w b1 ls1 ms1 n1 → Calls Try.prog f xs w Q) : Calls Try.prog f xs w Q := by
  obtain ⟨vl, vm, h1, h2, h3⟩ := h
  exact hc _ h1
theorem p2_q {f : FuncId} {xs : Array Value} {Q : Ending → World → Prop} (h : PN w0 C w b1 b2 ls1 ms1 n1 ls2 ms2 n2) (hc : ∀ vl vm, RNt w b2 vl vm ls2 ms2 n2 → Calls Try.prog f xs w Q) : Calls Try.prog f xs w Q := by
  obtain ⟨vl, vm, h1, h2, h3⟩ := h
  exact hc _ _ h2
theorem PN.read (h : PN w0 C w b1 b2 ls1 ms1 n1 ls2 ms2 n2) : ∃ p1 c1 p2 c2, w.cell? ⟨b2, 0, none⟩ = some (.slice p1 ls2.length c1) ∧ w.cell? ⟨b2, 1, none⟩ = some (.slice p2 ms2.length c2) := by
  obtain ⟨vl, vm, h1, h2, h3⟩ := h
  obtain ⟨c0, c1, -, -⟩ := h2.facts
  obtain ⟨p1, k1, rfl, -, -⟩ := ownsS_form h2.lr
  obtain ⟨p2, k2, rfl, -, -⟩ := ownsS_form h2.mr
  exact ⟨p1, k1, p2, k2, c0, c1⟩
/-- an error's chain, if there is an error -/
def demErr (r k : Int) : List Lk := if k = 0 then [] else [Lk.fault ⟨#[100, 101, 109, 111, 110, 105, 116, 111, 114]⟩ (r % 2147483648), Lk.kind k]
def demMs (ms : List Mo) (r who : Int) : List Mo := if demKind ms r who = 0 then butRef ms r else ms
theorem chain_on {L : List Lk} {u : Value} (h : Chain w u L) (hk : Kp (fun q => L = [] ∧ ¬ C q) w w') : Chain w' u L := by
  cases L with
  | nil => exact h
  | cons a L => exact Chain.kp (hk.mono fun _ _ e => by cases e.1) _ _ h
theorem xch_on {L : List Lk} {u : Value} (h : XCh w u L) (hk : Kp (fun q => L = [] ∧ ¬ C q) w w') : XCh w' u L := by
  cases L with
  | nil => exact h
  | cons a L => exact XCh.kp (hk.mono fun _ _ e => by cases e.1) _ _ h
theorem p1_dem (h : PN w0 C w b1 b2 ls ms n ls2 ms2 n2) (hr : I64 r) (who : Int) :
    Calls Try.prog 9 #[.pointer (some ⟨b1, 0, none⟩), .int .i64 r, .int .i64 who] w (fun e w' => ∃ u, e = .returned u ∧ Chain w' u (demErr r (demKind ms r who)) ∧ PN w0 C w' b1 b2 ls (demMs ms r who) n ls2 ms2 n2 ∧ Kp (fun q => demErr r (demKind ms r who) = [] ∧ ¬ C q) w w') := by
  obtain ⟨vl, vm, h1, h2, h3⟩ := h
  unfold demMs demErr
  by_cases hk : demKind ms r who = 0
  · rw [if_pos hk, if_pos hk]
    obtain ⟨m, hm, rfl⟩ : ∃ m, moOf ms r = some m ∧ m.who = who := by
      unfold demKind at hk
      cases hm : moOf ms r with
      | none => rw [hm] at hk; simp at hk
      | some m => rw [hm] at hk; exact ⟨m, rfl, by simpa using hk⟩
    refine (ns_dem_ok h1 hr hm).mono ?_
    rintro e w' ⟨rfl, h4, h5⟩
    obtain ⟨h6, h7⟩ := pn_one h2 h3 h4 h5
    exact ⟨_, rfl, rfl, h6, h7.mono fun q _ e => ⟨rfl, e⟩⟩
  · rw [if_neg hk, if_neg hk]
    refine (ns_dem_bad h1 hr who hk).mono ?_
    rintro e w' ⟨u, rfl, hu, hk2⟩
    exact ⟨u, rfl, hu.out, PN.same ⟨vl, vm, h1, h2, h3⟩ hk2, hk2.mono fun _ _ e => e.elim⟩
theorem p2_dem (h : PN w0 C w b1 b2 ls1 ms1 n1 ls ms n) (hok : MoOk n ms) (hl : ms.length ≤ 5864062014805) (r who : Int) :
    Calls Try.prog 25 #[.pointer (some ⟨b2, 0, none⟩), .int .i64 r, .int .i64 who] w (fun e w' => ∃ u, e = .returned u ∧ XCh w' u (demErr r (demKind ms r who)) ∧ PN w0 C w' b1 b2 ls1 ms1 n1 ls (demMs ms r who) n ∧ Kp (fun q => demErr r (demKind ms r who) = [] ∧ ¬ C q) w w') := by
  obtain ⟨vl, vm, h1, h2, h3⟩ := h
  refine (xdem_any h2 hok hl r who).mono ?_
  unfold demMs demErr
  rintro e w' (⟨hk, rfl, vl', vm', h4, h5, h6, h7⟩ | ⟨hk, u, rfl, hu, hk2⟩)
  · rw [if_pos hk, if_pos hk]
    obtain ⟨h8, h9⟩ := pn_two h1 h3 h4 h7 h5 h6
    exact ⟨_, rfl, rfl, h8, h9.mono fun q _ e => ⟨rfl, e⟩⟩
  · rw [if_neg hk, if_neg hk]
    exact ⟨u, rfl, hu, PN.same ⟨vl, vm, h1, h2, h3⟩ hk2, hk2.mono fun _ _ e => e.elim⟩
/-- what End of either tells: two rows, the caller's from then on -/
def PEnd (w0 : World) (C : Nat → Prop) (w : World) (b1 b2 : Nat) (nl ol : List Int) (ls1 : List (Int × Int)) (ms1 : List Mo) (n1 : Nat) (ls2 : List (Int × Int)) (ms2 : List Mo) (n2 : Nat) (e : Ending) (w' : World) : Prop :=
  ∃ u1 u2, e = .returned (.tuple #[u1, u2]) ∧ Lw w' u1 nl ∧ Lw w' u2 ol ∧ PN w0 (fun q => C q ∨ u1.ownBlock = some q ∨ u2.ownBlock = some q) w' b1 b2 ls1 ms1 n1 ls2 ms2 n2 ∧ Kp (fun q => ¬ C q) w w'
theorem p1_end (h : PN w0 C w b1 b2 ls ms n ls2 ms2 n2) (ha : I64 a) : Calls Try.prog 15 #[.pointer (some ⟨b1, 0, none⟩), .int .i64 a] w (PEnd w0 C w b1 b2 (nbs ls a) (obs ms a) (endLs ls a) (endMs ms a) n ls2 ms2 n2) := by
  obtain ⟨vl, vm, h1, h2, h3⟩ := h
  refine (ns_end h1 ha).mono ?_
  rintro e w' ⟨u1, u2, rfl, l1, l2, f1, f2, h4, h5⟩
  refine ⟨u1, u2, rfl, l1, l2, ⟨vl, vm, h4.put (Kp.refl _ _) (fun q hq => .inl ?_), h2.kp h5 (fun e => e (.inr (.inl rfl))) (fun g hg e => e (.inr (.inr (.inl hg)))) (fun g hg e => e (.inr (.inr (.inr hg)))), fun q hq => ⟨(h3 q hq).1, fun e => ?_⟩⟩, h5.mono fun q _ e e2 => e (.inl e2)⟩
  · rcases hq with (hq | hq) | hq
    · exact .inl (.inl hq)
    · exact .inr hq
    · exact .inl (.inr hq)
  · have := h2.lt hq
    rcases e with e | e | e
    · exact (h3 q hq).2 e
    · have := f1 q e; omega
    · have := f2 q e; omega
theorem p2_end (h : PN w0 C w b1 b2 ls1 ms1 n1 ls ms n) (hok : MoOk n ms) (hl : ls.length ≤ 8796093022208) (hm : ms.length ≤ 5864062014805) : Calls Try.prog 28 #[.pointer (some ⟨b2, 0, none⟩), .int .i64 a] w (PEnd w0 C w b1 b2 (nbs ls a) (obs ms a) ls1 ms1 n1 (endLs ls a) (endMs ms a) n) := by
  obtain ⟨vl, vm, h1, h2, h3⟩ := h
  refine (xend_any h2 hok hl hm).mono ?_
  rintro e w' ⟨u1, u2, rfl, l1, l2, f1, f2, vl', vm', h4, h5, h6, h7⟩
  have hz := h7.size
  have hd : ∀ q, X3 b2 vl' vm' q → ¬ (C q ∨ u1.ownBlock = some q ∨ u2.ownBlock = some q) := by
    intro q hq e
    rcases e with e | e | e
    · have hq0 : q < w.heap.size := h1.clt q (.inl e)
      rcases hq with rfl | e2 | e2
      · exact (h3 _ (.inl rfl)).2 e
      · rcases h5 q e2 with e3 | e3
        · exact (h3 q (.inr (.inl e3))).2 e
        · omega
      · rcases h6 q e2 with e3 | e3
        · exact (h3 q (.inr (.inr e3))).2 e
        · omega
    · exact h4.lw l1 q e hq
    · exact h4.lw l2 q e hq
  obtain ⟨h8, h9⟩ := pn_two' (C' := fun q => C q ∨ u1.ownBlock = some q ∨ u2.ownBlock = some q) h1 h3 h4 h7 h5 h6 (fun q hq => hq.imp id (fun e => e.elim (fun e => ⟨f1 q e, l1.lt q e⟩) (fun e => ⟨f2 q e, l2.lt q e⟩))) hd
  exact ⟨u1, u2, rfl, l1, l2, h8, h9⟩
/-- two new nets -/
theorem pn_new (w : World) : PN w noLk ((w.alloc (.cells #[.map none, .map none, .map none, .map none, .map none, .map none, .map none, .int .i64 0] 31)).alloc (.cells #[.slice none 0 0, .slice none 0 0, .int .i64 0] 59)) w.heap.size (w.heap.size + 1) [] [] 0 [] [] 0 := by
  have h1 := ns_new (C := noLk) w (fun _ e => e.elim)
  obtain ⟨w1, hw1⟩ : ∃ w1, w.alloc (.cells #[.map none, .map none, .map none, .map none, .map none, .map none, .map none, .int .i64 0] 31) = w1 := ⟨_, rfl⟩
  have hz : w1.heap.size = w.heap.size + 1 := by rw [← hw1]; simp
  rw [hw1] at h1 ⊢
  have hk : Kp (fun _ => False) w1 (w1.alloc (.cells #[.slice none 0 0, .slice none 0 0, .int .i64 0] 59)) := (Kp.refl _ w1).alloc _
  have hz2 : (w1.alloc (.cells #[.slice none 0 0, .slice none 0 0, .int .i64 0] 59)).heap.size = w1.heap.size + 1 := by simp
  refine ⟨.slice none 0 0, .slice none 0 0, h1.put hk (fun q hq => ?_), ⟨by rw [← hz]; exact heap_alloc_new w1 _, ownsS_nil _ _ _, ownsS_nil _ _ _⟩, fun q hq => ?_⟩
  · rcases hq with hq | rfl | hq | hq
    · exact hq.elim
    · exact .inr (by omega)
    · cases hq
    · cases hq
  · rcases hq with rfl | hq | hq
    · exact ⟨by omega, fun e => e⟩
    · cases hq
    · cases hq
end
end Go.Proofs.Ytmfhmnlgffgcgaa
