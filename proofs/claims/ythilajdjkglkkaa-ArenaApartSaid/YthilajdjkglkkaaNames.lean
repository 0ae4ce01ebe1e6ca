/- An arena beside a slice of numbers, both the call's own. -/
import Derived.Test.YthilajdjkglkkaaOwn
namespace Go.Proofs.Ythilajdjkglkkaa
open Go.RowKit

/-- the arena A at b, and a slice v of the numbers xs, apart from it; w is where the call began -/
structure Held (w wr : World) (F : Nat → Prop) (b : Nat) (A : Ar) (xs : List Int) (v : Value) : Prop where
  new : ∀ q, F q → w.heap.size ≤ q
  rep : Rep wr F b A
  apart : ∀ g, v.ownBlock = some g → ¬ F g
  row : wr.ownsRow w.heap.size 3 1 v xs.length (xs.map (Value.int .i64))
  kp : Kp (fun _ => False) w wr

section
variable {w wr w' : World} {F : Nat → Prop} {b : Nat} {A A' : Ar} {xs : List Int} {v : Value}

theorem Held.start (hk : Kp (fun _ => False) w wr) (h : Rep wr (only b) b A) (hb : w.heap.size ≤ b) : Held w wr (only b) b A [] (.slice none 0 0) :=
  ⟨fun q hq => by rw [hq]; exact hb, h, fun g hg => by simp [Value.ownBlock] at hg, World.ownsRow_nil _ _ _ _, hk⟩

theorem Held.step (h : Held w wr F b A xs v) (hR : Rep w' (Ext F wr w') b A') (hk : Kp F wr w') : Held w w' (Ext F wr w') b A' xs v := by
  have hz := h.kp.size
  refine ⟨?_, hR, ?_, hk.row h.row h.apart, h.kp.trans (hk.mono fun q hq hF => .inr ⟨h.new q hF, hq⟩)⟩
  · intro q hq
    rcases hq with hq | hq
    · exact h.new q hq
    · omega
  · intro g hg hF
    rcases hF with hF | hF
    · exact h.apart g hg hF
    · have := (h.row.lt g hg).2; omega

theorem Held.same (h : Held w wr F b A xs v) (hR : Rep w' F b A') (hk : Kp F wr w') : Held w w' F b A' xs v := by
  have hz := h.kp.size
  exact ⟨h.new, hR, h.apart, hk.row h.row h.apart, h.kp.trans (hk.mono fun q hq hF => .inr ⟨h.new q hF, hq⟩)⟩

theorem Held.bad (h : Held w wr F b A xs v) (hR : Rep w' F b A) (hk : Kp (fun _ => False) wr w') : Held w w' F b A xs v :=
  h.same hR (hk.mono fun _ _ e => e.elim)

/-- a number is appended to the slice -/
theorem Held.push (h : Held w wr F b A xs v) {o : Obj} {g cap : Nat} {x : Int} {w2 : World} (k : Nat)
    (hown : w2.ownsRow w.heap.size 3 1 (.slice (some ⟨g, 0, none⟩) (xs.length + 1) cap) (xs.length + 1) (xs.map (Value.int .i64) ++ [.int .i64 x]))
    (hg : ((wr.alloc o).drewN k).grownBy w2 v.ownBlock) (hat : v.ownBlock = some g ∨ g = wr.heap.size + 1) : Held w w2 F b A (xs ++ [x]) (.slice (some ⟨g, 0, none⟩) (xs.length + 1) cap) := by
  have hz := h.kp.size
  have hk0 : Kp (fun _ => False) wr ((wr.alloc o).drewN k) := by
    have := (Kp.refl (fun _ => False) wr).alloc o
    exact ⟨this.os, this.tape, this.output, this.size, this.block⟩
  have hk : Kp (fun q => v.ownBlock = some q) wr w2 := (hk0.mono fun _ _ e => e.elim).grown hg (fun q hq => .inl hq)
  refine ⟨h.new, h.rep.besides hk (fun q hF hv => h.apart q hv hF), ?_, ?_, ?_⟩
  · intro g' hg' hF
    simp [Value.ownBlock] at hg'
    subst hg'
    rcases hat with e | e
    · exact h.apart g e hF
    · have := h.rep.ltF g hF; omega
  · simpa using hown
  · exact h.kp.trans (hk.mono fun q hq hv => .inr (h.row.lt q hv))

/-- an element of the slice -/
theorem Held.get (h : Held w wr F b A xs v) (i : Nat) (hi : i < xs.length) : ∃ g cap, v = .slice (some ⟨g, 0, none⟩) xs.length cap ∧ wr.cell? ⟨g, i, none⟩ = some (.int .i64 (xs.getD i 0)) := by
  have ho : wr.ownsRow 0 3 1 v xs.length (xs.map (Value.int .i64)) := by
    refine ⟨h.row.1, ?_⟩
    rcases h.row.2 with hn | ⟨g, cap, cur, h1, _, h2⟩
    · exact .inl hn
    · exact .inr ⟨g, cap, cur, h1, by omega, h2⟩
  obtain ⟨g, cap, hv, _, _⟩ := row_cons ho (by omega)
  refine ⟨g, cap, hv, ?_⟩
  rw [hv] at ho
  rw [ho.cellAt i (by omega), List.getElem?_map, List.getD_eq_getElem?_getD, List.getElem?_eq_getElem hi]
  rfl
theorem Held.form (h : Held w wr F b A xs v) : ∃ po cap, v = .slice po xs.length cap := by
  rcases h.row.2 with ⟨e, h0⟩ | ⟨g, cap, _, e, _⟩
  · rw [h0]; exact ⟨_, _, e⟩
  · exact ⟨_, _, e⟩
end

/-! ### the numbers of the blocks that are taken -/
def ownNames (ns : List (Nat × Nat)) : List Int := ns.map fun x => ((x.1 + 1 : Nat) : Int)
structure Took (A : Ar) (ns : List (Nat × Nat)) : Prop where
  inv : Inv A []
  tk : ∀ p m, A.tk p m ↔ (p, m) ∈ ns
  nd : (ns.map (·.1)).Nodup

theorem Took.new (size quota : Nat) (h1 : size ≤ 1048576) (h2 : quota ≤ size) : Took (Ar.new size quota) [] :=
  ⟨Inv.new size quota h1 h2, fun p m => by simp [Ar.tk, Ar.new], by simp⟩
theorem Took.add {A A1 : Ar} {ns : List (Nat × Nat)} {own n : Nat} (h : Took A ns) (hn : n ≤ 1048576) (hc : cls n ≤ 20) (hq : A.used + 2 ^ cls n ≤ A.quota) (hf : Found A (cls n) own A1) : Took (A1.took own (cls n) n) (ns ++ [(own, n)]) := by
  obtain ⟨h1, h2, h3, _⟩ := alloc_tk h.inv hn hc hq hf
  have hno : own ∉ ns.map (·.1) := by
    intro hm
    obtain ⟨⟨p, m⟩, hpm, e⟩ := List.mem_map.1 hm
    simp at e
    subst e
    exact h3 m ((h.tk p m).2 hpm)
  refine ⟨h1, fun p m => ?_, ?_⟩
  · rw [h2, h.tk, List.mem_append]
    constructor
    · rintro (⟨rfl, rfl⟩ | ⟨_, hm⟩)
      · exact .inr (by simp)
      · exact .inl hm
    · rintro (hm | hm)
      · exact .inr ⟨fun e => hno (List.mem_map.2 ⟨(p, m), hm, e⟩), hm⟩
      · simp at hm; exact .inl hm
  · rw [List.map_append, List.nodup_append]
    refine ⟨h.nd, by simp, ?_⟩
    intro a ha b hb e
    simp at hb
    subst hb
    subst e
    exact hno ha
theorem Took.drop {A : Ar} {ns : List (Nat × Nat)} {q n : Nat} (h : Took A ((q, n) :: ns)) : A.tk q n ∧ Took (A.freed q (cls n)) ns := by
  have hq : A.tk q n := (h.tk q n).2 (by simp)
  have hnd := h.nd
  simp only [List.map_cons, List.nodup_cons] at hnd
  refine ⟨hq, (h.inv.freed hq).1, fun p m => ?_, hnd.2⟩
  rw [freed_tk hq, h.tk]
  constructor
  · rintro ⟨h1, h2⟩
    rcases List.mem_cons.1 h2 with h2 | h2
    · simp at h2; exact absurd h2.1 h1
    · exact h2
  · intro hm
    refine ⟨fun e => hnd.1 (List.mem_map.2 ⟨(p, m), hm, e⟩), List.mem_cons_of_mem _ hm⟩
theorem drop_names (ns : List (Nat × Nat)) (j : Nat) (h : j < ns.length) : ∃ q n, ns.drop j = (q, n) :: ns.drop (j + 1) ∧ (ownNames ns).getD j 0 = ((q : Nat) : Int) + 1 := by
  refine ⟨ns[j].1, ns[j].2, List.drop_eq_getElem_cons h, ?_⟩
  rw [List.getD_eq_getElem?_getD, ownNames, List.getElem?_map, List.getElem?_eq_getElem h]
  simp
theorem Took.len {A : Ar} {ns : List (Nat × Nat)} (h : Took A ns) : ns.length ≤ 1048576 := by
  have := nodup_len A.places.length (ns.map (·.1)) h.nd (fun x hx => by
    obtain ⟨⟨p, m⟩, hpm, e⟩ := List.mem_map.1 hx
    simp at e
    subst e
    exact (List.getElem?_eq_some_iff.1 ((h.tk p m).2 hpm).2).1)
  have h1 := h.inv.top
  have h2 := h.inv.size
  simp at this
  omega
theorem Took.none {A : Ar} (h : Took A []) : A.used = 0 ∧ A.names = [] := by
  have hno : ∀ q : Nat, A.taken[q]? ≠ some true := by
    intro q hq
    obtain ⟨n, h1, _⟩ := h.inv.tkn q hq
    exact absurd ((h.tk q n).1 ⟨hq, h1⟩) (by simp)
  refine ⟨by rw [h.inv.used]; exact usum_zero _ _ hno, ?_⟩
  unfold Ar.names namesTo
  rw [List.filterMap_eq_nil_iff]
  intro q _
  have := hno q
  rw [List.getD_eq_getElem?_getD]
  cases he : A.taken[q]? with
  | none => rfl
  | some x =>
    rw [he] at this
    cases x with
    | true => exact absurd rfl this
    | false => rfl
end Go.Proofs.Ythilajdjkglkkaa
