/- Two tables of the program's and a slice of numbers, all the call's own. -/
import Derived.Test.YtmghneglfnkihaaBoth
import Derived.Test.YtmghneglfnkihaaPlace
namespace Go.Proofs.Ytmghneglfnkihaa
open Go.RowKit Go.Maps

theorem Try.infoInt : (Try.prog.info? 3).map (fun i => (i.zero, i.size, i.bytes)) = some (some (.int .i64 0), 1, 8) := by kernel_rfl

structure DuoS (w wr : World) (F G : Nat → Prop) (pa pb : Nat) (t u : List ByteArray) (v : Value) (cs : List Int) : Prop where
  nf : ∀ q, F q → w.heap.size ≤ q
  ng : ∀ q, G q → w.heap.size ≤ q
  lf : ∀ q, F q → q < wr.heap.size
  lg : ∀ q, G q → q < wr.heap.size
  ap : ∀ q, F q → ¬ G q
  ra : AtRep wr F pa t
  rb : AtRep wr G pb u
  vf : ∀ g, v.ownBlock = some g → ¬ F g ∧ ¬ G g
  row : wr.ownsRow w.heap.size 3 1 v cs.length (cs.map (Value.int .i64))
  kp : Kp (fun _ => False) w wr

section
variable {w wr w' : World} {F G : Nat → Prop} {pa pb : Nat} {t u t' u' : List ByteArray} {v : Value} {cs : List Int}
theorem DuoS.stepA (h : DuoS w wr F G pa pb t u v cs) (hr : AtRep w' (Ext F wr w') pa t') (hk : Kp F wr w') : DuoS w w' (Ext F wr w') G pa pb t' u v cs := by
  have hz := h.kp.size
  refine ⟨?_, h.ng, ?_, fun q e => Nat.lt_of_lt_of_le (h.lg q e) hk.size, ?_, hr, h.rb.kp hk (fun q e e2 => h.ap q e2 e), fun g hg => ⟨?_, (h.vf g hg).2⟩, hk.row h.row (fun g hg => (h.vf g hg).1), h.kp.trans (hk.mono fun q hq hF => .inr ⟨h.nf q hF, hq⟩)⟩
  · intro q hq
    rcases hq with hq | hq
    · exact h.nf q hq
    · omega
  · intro q hq
    rcases hq with hq | hq
    · exact Nat.lt_of_lt_of_le (h.lf q hq) hk.size
    · exact hq.2
  · intro q hq hG
    rcases hq with hq | hq
    · exact h.ap q hq hG
    · have := h.lg q hG; omega
  · intro hq
    rcases hq with hq | hq
    · exact (h.vf g hg).1 hq
    · have := (h.row.lt g hg).2; omega
theorem DuoS.stepB (h : DuoS w wr F G pa pb t u v cs) (hr : AtRep w' (Ext G wr w') pb u') (hk : Kp G wr w') : DuoS w w' F (Ext G wr w') pa pb t u' v cs := by
  have hz := h.kp.size
  refine ⟨h.nf, ?_, fun q e => Nat.lt_of_lt_of_le (h.lf q e) hk.size, ?_, ?_, h.ra.kp hk (fun q e e2 => h.ap q e e2), hr, fun g hg => ⟨(h.vf g hg).1, ?_⟩, hk.row h.row (fun g hg => (h.vf g hg).2), h.kp.trans (hk.mono fun q hq hF => .inr ⟨h.ng q hF, hq⟩)⟩
  · intro q hq
    rcases hq with hq | hq
    · exact h.ng q hq
    · omega
  · intro q hq
    rcases hq with hq | hq
    · exact Nat.lt_of_lt_of_le (h.lg q hq) hk.size
    · exact hq.2
  · intro q hq hG
    rcases hG with hG | hG
    · exact h.ap q hq hG
    · have := h.lf q hq; omega
  · intro hq
    rcases hq with hq | hq
    · exact (h.vf g hg).2 hq
    · have := (h.row.lt g hg).2; omega
theorem DuoS.same (h : DuoS w wr F G pa pb t u v cs) (hk : Kp (fun _ => False) wr w') : DuoS w w' F G pa pb t u v cs :=
  ⟨h.nf, h.ng, fun q e => Nat.lt_of_lt_of_le (h.lf q e) hk.size, fun q e => Nat.lt_of_lt_of_le (h.lg q e) hk.size, h.ap, h.ra.kp hk (fun _ _ e => e), h.rb.kp hk (fun _ _ e => e), h.vf, hk.row h.row (fun _ _ e => e), h.kp.trans' hk⟩
/-- a number is appended -/
theorem DuoS.push (h : DuoS w wr F G pa pb t u v cs) {o : Obj} {g cap : Nat} {x : Int} {w2 : World}
    (hown : w2.ownsRow w.heap.size 3 1 (.slice (some ⟨g, 0, none⟩) (cs.length + 1) cap) (cs.length + 1) (cs.map (Value.int .i64) ++ [.int .i64 x]))
    (hg : (wr.alloc o).grownBy w2 v.ownBlock) (hat : v.ownBlock = some g ∨ g = wr.heap.size + 1) : DuoS w w2 F G pa pb t u (.slice (some ⟨g, 0, none⟩) (cs.length + 1) cap) (cs ++ [x]) := by
  have hz := h.kp.size
  have hk : Kp (fun q => v.ownBlock = some q) wr w2 := ((Kp.refl _ wr).alloc o).grown hg (fun q hq => .inl hq)
  refine ⟨h.nf, h.ng, fun q e => Nat.lt_of_lt_of_le (h.lf q e) hk.size, fun q e => Nat.lt_of_lt_of_le (h.lg q e) hk.size, h.ap, h.ra.kp hk (fun q e e2 => (h.vf q e2).1 e), h.rb.kp hk (fun q e e2 => (h.vf q e2).2 e), ?_, by simpa using hown, h.kp.trans (hk.mono fun q hq hv => .inr (h.row.lt q hv))⟩
  intro g' hg'
  simp [Value.ownBlock] at hg'
  subst hg'
  rcases hat with e | e
  · exact h.vf g e
  · exact ⟨fun e2 => by have := h.lf g e2; omega, fun e2 => by have := h.lg g e2; omega⟩
/-- a number of the slice -/
theorem DuoS.at (h : DuoS w wr F G pa pb t u v cs) : ∃ po cap, v = .slice po cs.length cap ∧ ∀ (i : Nat) (c : Int), cs[i]? = some c → ∃ g, po = some ⟨g, 0, none⟩ ∧ wr.cell? ⟨g, i, none⟩ = some (.int .i64 c) := by
  have h' := h.row
  rcases h.row.2 with ⟨e, h0⟩ | ⟨g, cap, cur, e, _⟩
  · refine ⟨none, 0, by rw [h0]; exact e, fun i a ha => ?_⟩
    have := (List.getElem?_eq_some_iff.1 ha).1
    omega
  · refine ⟨_, cap, e, fun i a ha => ⟨g, rfl, ?_⟩⟩
    have hlt := (List.getElem?_eq_some_iff.1 ha).1
    rw [e] at h'
    rw [h'.cellAt _ (by omega), List.getElem?_map, ha]
    rfl
theorem duo_new (w : World) : DuoS w ((w.alloc (.cells #[.int .u32 0, .int .i32 0, .int .u32 0, .map none, .slice none 0 0] 95)).alloc (.cells #[.int .u32 0, .int .i32 0, .int .u32 0, .map none, .slice none 0 0] 95))
    (fun q => q = w.heap.size) (fun q => q = w.heap.size + 1) w.heap.size (w.heap.size + 1) [] [] (.slice none 0 0) [] := by
  obtain ⟨wa, hwa⟩ : ∃ wa, w.alloc (.cells #[.int .u32 0, .int .i32 0, .int .u32 0, .map none, .slice none 0 0] 95) = wa := ⟨_, rfl⟩
  have hza : wa.heap.size = w.heap.size + 1 := by rw [← hwa]; simp
  have hma : wa.heap[w.heap.size]? = some (.cells (atCells 0 (.map none) (.slice none 0 0)) 95 (0, 0)) := by rw [← hwa]; exact heap_alloc_new w _
  have hka : Kp (fun _ => False) w wa := by rw [← hwa]; exact (Kp.refl _ w).alloc _
  rw [hwa]
  have hmb := heap_alloc_new wa (.cells #[.int .u32 0, .int .i32 0, .int .u32 0, .map none, .slice none 0 0] 95)
  rw [hza] at hmb
  refine ⟨fun q e => by omega, fun q e => by omega, fun q e => by simp; omega, fun q e => by simp; omega, fun q e e2 => by omega, .inl ⟨rfl, fun q e => by simp; omega, rfl, ?_⟩, .inl ⟨rfl, fun q e => by simp; omega, rfl, hmb⟩, fun g hg => by simp [Value.ownBlock] at hg, World.ownsRow_nil _ _ _ _, hka.alloc _⟩
  rw [Below.heap_alloc _ _ _ (by omega)]
  exact hma
end

/-- the number that s got -/
def Got (t : List ByteArray) (s : ByteArray) (c : Int) : Prop :=
  ((s.size = 0 ∨ 255 < s.size) ∧ c = -1) ∨ (1 ≤ s.size ∧ s.size ≤ 255 ∧ ∃ i : Nat, t[i]? = some s ∧ c = i)
theorem Got.more {t t' : List ByteArray} {s : ByteArray} {c : Int} (h : Got t s c) (hp : ∀ (i : Nat) (x : ByteArray), t[i]? = some x → t'[i]? = some x) : Got t' s c := by
  rcases h with h | ⟨h1, h2, i, h3, h4⟩
  · exact .inl h
  · exact .inr ⟨h1, h2, i, hp i s h3, h4⟩
theorem NumIs.got {t t' : List ByteArray} {s : ByteArray} {c : Int} {l : List Lk} (h : NumIs t s c l t') (ht : t.length < 1024) :
    Got t' s c ∧ (∀ (i : Nat) (x : ByteArray), t[i]? = some x → t'[i]? = some x) ∧ t'.length ≤ t.length + 1 := by
  rcases h with ⟨hb, rfl, _, rfl⟩ | ⟨h1, h2, ⟨i, hi, rfl, _, rfl⟩ | ⟨_, ⟨hl, _, _, rfl⟩ | ⟨hl, rfl, _, rfl⟩⟩⟩
  · exact ⟨.inl ⟨hb, rfl⟩, fun _ _ h => h, by omega⟩
  · exact ⟨.inr ⟨h1, h2, i, hi, rfl⟩, fun _ _ h => h, by omega⟩
  · omega
  · refine ⟨.inr ⟨h1, h2, t.length, by simp, rfl⟩, fun i x h => ?_, by simp⟩
    have := (List.getElem?_eq_some_iff.1 h).1
    rw [List.getElem?_append_left this]; exact h
/-- of two names: their numbers are the same if they are -/
theorem Got.same {t : List ByteArray} {a b : ByteArray} {c d : Int} (h1 : Got t a c) (h2 : Got t b d) (hnd : t.Nodup) (hc : 0 ≤ c) : (c == d) = (a.toList == b.toList) := by
  rcases h1 with ⟨_, rfl⟩ | ⟨a1, a2, i, hi, rfl⟩
  · omega
  · rcases h2 with ⟨hb, rfl⟩ | ⟨_, _, j, hj, rfl⟩
    · have hne : a ≠ b := by rintro rfl; omega
      rw [str_ne hne, beq_eq_false_iff_ne]; omega
    · by_cases e : a = b
      · subst e
        have : i = j := by
          obtain ⟨_, e1⟩ := List.getElem?_eq_some_iff.1 hi
          obtain ⟨_, e2⟩ := List.getElem?_eq_some_iff.1 hj
          exact (List.getElem_inj hnd).1 (e1.trans e2.symm)
        subst this
        simp
      · rw [str_ne e, beq_eq_false_iff_ne]
        intro e2
        have : i = j := by omega
        subst this
        rw [hi] at hj
        injection hj with hj
        exact e hj
end Go.Proofs.Ytmghneglfnkihaa
