/- The document's own net in memory: its rows, its head. -/
import Derived.Test.YtmfhmnlgffgcgaaLkRef1
namespace Go.Proofs.Ytmfhmnlgffgcgaa
open Go.RowKit
set_option linter.unusedVariables false

def lkC (l : List (Int × Int)) : List Value := l.flatMap fun p => [.int .i64 p.1, .int .i64 p.2]
theorem lkC_len (l : List (Int × Int)) : (lkC l).length = l.length * 2 := by
  induction l with
  | nil => rfl
  | cons a l ih => simp [lkC] at ih ⊢; omega
theorem lkC_app (l m : List (Int × Int)) : lkC (l ++ m) = lkC l ++ lkC m := by simp [lkC]
theorem lkC_one (l : List (Int × Int)) : ∀ u ∈ lkC l, u.oneCell' = true := by
  intro u hu
  unfold lkC at hu
  obtain ⟨t, _, ht⟩ := List.mem_flatMap.1 hu
  simp at ht
  rcases ht with rfl | rfl <;> rfl
theorem lkC_get : ∀ (l : List (Int × Int)) (i j : Nat) (p : (Int × Int)) (u : Value), l[i]? = some p → ([.int .i64 p.1, .int .i64 p.2] : List Value)[j]? = some u → (lkC l)[i * 2 + j]? = some u
  | [], i, j, p, u, h, hu => by simp at h
  | a :: l, 0, j, p, u, h, hu => by
    obtain rfl : a = p := by simpa using h
    rw [Nat.zero_mul, Nat.zero_add]
    show (([.int .i64 a.1, .int .i64 a.2] : List Value) ++ lkC l)[j]? = some u
    rw [List.getElem?_append_left (List.getElem?_eq_some_iff.1 hu).1]
    exact hu
  | a :: l, i + 1, j, p, u, h, hu => by
    have h1 := lkC_get l i j p u (by simpa using h) hu
    show (([.int .i64 a.1, .int .i64 a.2] : List Value) ++ lkC l)[(i + 1) * 2 + j]? = some u
    rw [List.getElem?_append_right (by simp; omega)]
    rw [← h1]
    congr 1
    simp
    omega
theorem lkC_take (l : List (Int × Int)) (j : Nat) : (lkC l).take (j * 2) = lkC (l.take j) := by
  rcases Nat.lt_or_ge l.length j with h | h
  · rw [List.take_of_length_le (by rw [lkC_len]; omega), List.take_of_length_le (by omega)]
  · have h1 : lkC l = lkC (l.take j) ++ lkC (l.drop j) := by rw [← lkC_app, List.take_append_drop]
    have h2 : (lkC (l.take j)).length = j * 2 := by rw [lkC_len, List.length_take]; omega
    rw [h1]
    exact List.take_left' h2
theorem lkC_drop (l : List (Int × Int)) (j : Nat) : (lkC l).drop (j * 2) = lkC (l.drop j) := by
  rcases Nat.lt_or_ge l.length j with h | h
  · rw [List.drop_eq_nil_of_le (by rw [lkC_len]; omega), List.drop_eq_nil_of_le (by omega)]
    rfl
  · have h1 : lkC l = lkC (l.take j) ++ lkC (l.drop j) := by rw [← lkC_app, List.take_append_drop]
    have h2 : (lkC (l.take j)).length = j * 2 := by rw [lkC_len, List.length_take]; omega
    rw [h1]
    exact List.drop_left' h2
theorem Try.infolkC : (Try.prog.info? 76).map (fun i => (i.zero, i.size, i.bytes)) = some (some (.agg #[.int .i64 0, .int .i64 0]), 2, 16) := by kernel_rfl
section
variable {w w' : World} {v : Value} {l m : List (Int × Int)}
/-- several more -/
theorem lkC_append (ho : w.ownsS 76 2 v l.length (lkC l)) (po : Option Addr) (c : Nat) (m : List (Int × Int)) (hsrc : 0 < m.length → ∃ ad, po = some ad ∧ ∀ j u, (lkC m)[j]? = some u → w.cell? (ad.add j) = some u) (hlen : l.length + m.length ≤ 8796093022208) :
    ∃ v' w', (Builtin.append_ #[56, 56] 56 #[v, .slice po m.length c]).run Try.prog w = .ok v' w' ∧ w'.ownsS 76 2 v' (l ++ m).length (lkC (l ++ m)) ∧ Kp (fun q => v.ownBlock = some q) w w' ∧ ∀ g, v'.ownBlock = some g → v.ownBlock = some g ∨ w.heap.size ≤ g := by
  obtain ⟨i0, hi, hz0, hz1, hz2⟩ := info_parts Try.infolkC
  obtain ⟨v', w', e1, e2, e3, e4⟩ := run_append_s (P := Try.prog) w 56 56 76 i0 _ 2 16 Try.underlying56 hi hz0 hz1 hz2 rfl v l.length (lkC l) ho po m.length c (lkC m) (lkC_len m) hsrc (lkC_one m) (by unfold maxLen; omega) (by omega)
  refine ⟨v', w', e1, ?_, ((Kp.refl (fun q => v.ownBlock = some q) w).grown e3 (fun q hq => .inl hq)), e4⟩
  rw [List.length_append, lkC_app]
  exact e2
/-- one more -/
theorem lkC_push (ho : w.ownsS 76 2 v l.length (lkC l)) (p : (Int × Int)) {g : Nat} (hg : w.heap[g]? = some (.cells #[.int .i64 p.1, .int .i64 p.2] 76 (0, 0))) (hlen : l.length + 1 ≤ 8796093022208) :
    ∃ v' w', (Builtin.append_ #[56, 56] 56 #[v, .slice (some ⟨g, 0, none⟩) 1 1]).run Try.prog w = .ok v' w' ∧ w'.ownsS 76 2 v' (l ++ [p]).length (lkC (l ++ [p])) ∧ Kp (fun q => v.ownBlock = some q) w w' ∧ ∀ g, v'.ownBlock = some g → v.ownBlock = some g ∨ w.heap.size ≤ g := by
  refine lkC_append ho (some ⟨g, 0, none⟩) 1 [p] (fun _ => ⟨⟨g, 0, none⟩, rfl, fun j u hj => ?_⟩) hlen
  have hadd : (⟨g, 0, none⟩ : Addr).add j = ⟨g, j, none⟩ := by rw [Go.WideShapes.add_plain, Nat.zero_add]
  rw [hadd, cell_of_row w g j _ _ _ hg, ← hj]
  simp [lkC]
theorem lkC_cell (ho : w.ownsS 76 2 v l.length (lkC l)) {i j : Nat} {p : (Int × Int)} {u : Value} (hi : l[i]? = some p) (hu : ([.int .i64 p.1, .int .i64 p.2] : List Value)[j]? = some u) : ∃ g cap, v = .slice (some ⟨g, 0, none⟩) l.length cap ∧ l.length ≤ cap ∧ cap ≤ 9223372036854775807 ∧ w.cell? ⟨g, i * 2 + j, none⟩ = some u :=
  ownsS_get ho _ _ (lkC_get l i j p u hi hu)
/-- one is cut out -/
theorem lkC_cut {n cap i g : Nat} (ho : w.ownsS 76 2 (.slice (some ⟨g, 0, none⟩) n cap) l.length (lkC l)) (hn : l.length = n) (hi : i < n) (hlen : n ≤ 8796093022208) :
    ∃ v' w', (Builtin.append_ #[56, 56] 56 #[.slice (some ⟨g, 0, none⟩) i i, .slice (if cap = i + 1 then some ⟨g, 0, none⟩ else some ⟨g, (i + 1) * 2, none⟩) (n - (i + 1)) (cap - (i + 1))]).run Try.prog w = .ok v' w' ∧
      w'.ownsS 76 2 v' (l.take i ++ l.drop (i + 1)).length (lkC (l.take i ++ l.drop (i + 1))) ∧ Kp (fun q => q = g) w w' ∧ ∀ q, v'.ownBlock = some q → q = g ∨ w.heap.size ≤ q := by
  subst hn
  have hil : (l.take i).length = i := by rw [List.length_take]; omega
  have hcap : l.length ≤ cap := by
    obtain ⟨po, c, e, h1, -⟩ := ownsS_form ho
    injection e with _ _ e
    omega
  have hoc : w.ownsS 76 2 (.slice (some ⟨g, 0, none⟩) i i) (l.take i).length (lkC (l.take i)) := by
    rw [hil, ← lkC_take]
    exact ownsS_cut ho (j := i) (by omega)
  obtain ⟨v', w', hr, h1, h2, h3⟩ := lkC_append hoc (if cap = i + 1 then some ⟨g, 0, none⟩ else some ⟨g, (i + 1) * 2, none⟩) (cap - (i + 1)) (l.drop (i + 1)) (fun hp => by
    rw [List.length_drop] at hp
    rw [if_neg (by omega)]
    refine ⟨_, rfl, fun j u hu => ?_⟩
    rw [← lkC_drop, List.getElem?_drop] at hu
    obtain ⟨g', cap', e, -, -, hc⟩ := ownsS_get ho _ _ hu
    injection e with e
    injection e with e
    injection e with e
    rw [Go.WideShapes.add_plain, e]
    exact hc) (by rw [List.length_take, List.length_drop]; omega)
  rw [List.length_drop] at hr
  exact ⟨v', w', hr, h1, h2.mono fun q _ e => (Option.some.inj (show some g = some q from e)).symm, fun q hq => (h3 q hq).imp (fun e => (Option.some.inj (show some g = some q from e)).symm) id⟩
end

def moC (l : List Mo) : List Value := l.flatMap fun p => [.int .i64 p.ref, .int .i64 p.who, .int .i64 p.whom]
theorem moC_len (l : List Mo) : (moC l).length = l.length * 3 := by
  induction l with
  | nil => rfl
  | cons a l ih => simp [moC] at ih ⊢; omega
theorem moC_app (l m : List Mo) : moC (l ++ m) = moC l ++ moC m := by simp [moC]
theorem moC_one (l : List Mo) : ∀ u ∈ moC l, u.oneCell' = true := by
  intro u hu
  unfold moC at hu
  obtain ⟨t, _, ht⟩ := List.mem_flatMap.1 hu
  simp at ht
  rcases ht with rfl | rfl | rfl <;> rfl
theorem moC_get : ∀ (l : List Mo) (i j : Nat) (p : Mo) (u : Value), l[i]? = some p → ([.int .i64 p.ref, .int .i64 p.who, .int .i64 p.whom] : List Value)[j]? = some u → (moC l)[i * 3 + j]? = some u
  | [], i, j, p, u, h, hu => by simp at h
  | a :: l, 0, j, p, u, h, hu => by
    obtain rfl : a = p := by simpa using h
    rw [Nat.zero_mul, Nat.zero_add]
    show (([.int .i64 a.ref, .int .i64 a.who, .int .i64 a.whom] : List Value) ++ moC l)[j]? = some u
    rw [List.getElem?_append_left (List.getElem?_eq_some_iff.1 hu).1]
    exact hu
  | a :: l, i + 1, j, p, u, h, hu => by
    have h1 := moC_get l i j p u (by simpa using h) hu
    show (([.int .i64 a.ref, .int .i64 a.who, .int .i64 a.whom] : List Value) ++ moC l)[(i + 1) * 3 + j]? = some u
    rw [List.getElem?_append_right (by simp; omega)]
    rw [← h1]
    congr 1
    simp
    omega
theorem moC_take (l : List Mo) (j : Nat) : (moC l).take (j * 3) = moC (l.take j) := by
  rcases Nat.lt_or_ge l.length j with h | h
  · rw [List.take_of_length_le (by rw [moC_len]; omega), List.take_of_length_le (by omega)]
  · have h1 : moC l = moC (l.take j) ++ moC (l.drop j) := by rw [← moC_app, List.take_append_drop]
    have h2 : (moC (l.take j)).length = j * 3 := by rw [moC_len, List.length_take]; omega
    rw [h1]
    exact List.take_left' h2
theorem moC_drop (l : List Mo) (j : Nat) : (moC l).drop (j * 3) = moC (l.drop j) := by
  rcases Nat.lt_or_ge l.length j with h | h
  · rw [List.drop_eq_nil_of_le (by rw [moC_len]; omega), List.drop_eq_nil_of_le (by omega)]
    rfl
  · have h1 : moC l = moC (l.take j) ++ moC (l.drop j) := by rw [← moC_app, List.take_append_drop]
    have h2 : (moC (l.take j)).length = j * 3 := by rw [moC_len, List.length_take]; omega
    rw [h1]
    exact List.drop_left' h2
theorem Try.infomoC : (Try.prog.info? 80).map (fun i => (i.zero, i.size, i.bytes)) = some (some (.agg #[.int .i64 0, .int .i64 0, .int .i64 0]), 3, 24) := by kernel_rfl
section
variable {w w' : World} {v : Value} {l m : List Mo}
/-- several more -/
theorem moC_append (ho : w.ownsS 80 3 v l.length (moC l)) (po : Option Addr) (c : Nat) (m : List Mo) (hsrc : 0 < m.length → ∃ ad, po = some ad ∧ ∀ j u, (moC m)[j]? = some u → w.cell? (ad.add j) = some u) (hlen : l.length + m.length ≤ 5864062014805) :
    ∃ v' w', (Builtin.append_ #[57, 57] 57 #[v, .slice po m.length c]).run Try.prog w = .ok v' w' ∧ w'.ownsS 80 3 v' (l ++ m).length (moC (l ++ m)) ∧ Kp (fun q => v.ownBlock = some q) w w' ∧ ∀ g, v'.ownBlock = some g → v.ownBlock = some g ∨ w.heap.size ≤ g := by
  obtain ⟨i0, hi, hz0, hz1, hz2⟩ := info_parts Try.infomoC
  obtain ⟨v', w', e1, e2, e3, e4⟩ := run_append_s (P := Try.prog) w 57 57 80 i0 _ 3 24 Try.underlying57 hi hz0 hz1 hz2 rfl v l.length (moC l) ho po m.length c (moC m) (moC_len m) hsrc (moC_one m) (by unfold maxLen; omega) (by omega)
  refine ⟨v', w', e1, ?_, ((Kp.refl (fun q => v.ownBlock = some q) w).grown e3 (fun q hq => .inl hq)), e4⟩
  rw [List.length_append, moC_app]
  exact e2
/-- one more -/
theorem moC_push (ho : w.ownsS 80 3 v l.length (moC l)) (p : Mo) {g : Nat} (hg : w.heap[g]? = some (.cells #[.int .i64 p.ref, .int .i64 p.who, .int .i64 p.whom] 80 (0, 0))) (hlen : l.length + 1 ≤ 5864062014805) :
    ∃ v' w', (Builtin.append_ #[57, 57] 57 #[v, .slice (some ⟨g, 0, none⟩) 1 1]).run Try.prog w = .ok v' w' ∧ w'.ownsS 80 3 v' (l ++ [p]).length (moC (l ++ [p])) ∧ Kp (fun q => v.ownBlock = some q) w w' ∧ ∀ g, v'.ownBlock = some g → v.ownBlock = some g ∨ w.heap.size ≤ g := by
  refine moC_append ho (some ⟨g, 0, none⟩) 1 [p] (fun _ => ⟨⟨g, 0, none⟩, rfl, fun j u hj => ?_⟩) hlen
  have hadd : (⟨g, 0, none⟩ : Addr).add j = ⟨g, j, none⟩ := by rw [Go.WideShapes.add_plain, Nat.zero_add]
  rw [hadd, cell_of_row w g j _ _ _ hg, ← hj]
  simp [moC]
theorem moC_cell (ho : w.ownsS 80 3 v l.length (moC l)) {i j : Nat} {p : Mo} {u : Value} (hi : l[i]? = some p) (hu : ([.int .i64 p.ref, .int .i64 p.who, .int .i64 p.whom] : List Value)[j]? = some u) : ∃ g cap, v = .slice (some ⟨g, 0, none⟩) l.length cap ∧ l.length ≤ cap ∧ cap ≤ 9223372036854775807 ∧ w.cell? ⟨g, i * 3 + j, none⟩ = some u :=
  ownsS_get ho _ _ (moC_get l i j p u hi hu)
/-- one is cut out -/
theorem moC_cut {n cap i g : Nat} (ho : w.ownsS 80 3 (.slice (some ⟨g, 0, none⟩) n cap) l.length (moC l)) (hn : l.length = n) (hi : i < n) (hlen : n ≤ 5864062014805) :
    ∃ v' w', (Builtin.append_ #[57, 57] 57 #[.slice (some ⟨g, 0, none⟩) i i, .slice (if cap = i + 1 then some ⟨g, 0, none⟩ else some ⟨g, (i + 1) * 3, none⟩) (n - (i + 1)) (cap - (i + 1))]).run Try.prog w = .ok v' w' ∧
      w'.ownsS 80 3 v' (l.take i ++ l.drop (i + 1)).length (moC (l.take i ++ l.drop (i + 1))) ∧ Kp (fun q => q = g) w w' ∧ ∀ q, v'.ownBlock = some q → q = g ∨ w.heap.size ≤ q := by
  subst hn
  have hil : (l.take i).length = i := by rw [List.length_take]; omega
  have hcap : l.length ≤ cap := by
    obtain ⟨po, c, e, h1, -⟩ := ownsS_form ho
    injection e with _ _ e
    omega
  have hoc : w.ownsS 80 3 (.slice (some ⟨g, 0, none⟩) i i) (l.take i).length (moC (l.take i)) := by
    rw [hil, ← moC_take]
    exact ownsS_cut ho (j := i) (by omega)
  obtain ⟨v', w', hr, h1, h2, h3⟩ := moC_append hoc (if cap = i + 1 then some ⟨g, 0, none⟩ else some ⟨g, (i + 1) * 3, none⟩) (cap - (i + 1)) (l.drop (i + 1)) (fun hp => by
    rw [List.length_drop] at hp
    rw [if_neg (by omega)]
    refine ⟨_, rfl, fun j u hu => ?_⟩
    rw [← moC_drop, List.getElem?_drop] at hu
    obtain ⟨g', cap', e, -, -, hc⟩ := ownsS_get ho _ _ hu
    injection e with e
    injection e with e
    injection e with e
    rw [Go.WideShapes.add_plain, e]
    exact hc) (by rw [List.length_take, List.length_drop]; omega)
  rw [List.length_drop] at hr
  exact ⟨v', w', hr, h1, h2.mono fun q _ e => (Option.some.inj (show some g = some q from e)).symm, fun q hq => (h3 q hq).imp (fun e => (Option.some.inj (show some g = some q from e)).symm) id⟩
end

/-- the document's own net at b -/
structure RNt (w : World) (b : Nat) (vl vm : Value) (ls : List (Int × Int)) (ms : List Mo) (next : Nat) : Prop where
  main : w.heap[b]? = some (.cells #[vl, vm, .int .i64 (next : Nat)] 59 (0, 0))
  lr : w.ownsS 76 2 vl ls.length (lkC ls)
  mr : w.ownsS 80 3 vm ms.length (moC ms)
/-- what one of its ways leaves -/
def RTo (w : World) (b : Nat) (vl vm : Value) (ls : List (Int × Int)) (ms : List Mo) (next : Nat) (v : Value) (e : Ending) (w' : World) : Prop :=
  e = .returned v ∧ ∃ vl' vm', RNt w' b vl' vm' ls ms next ∧ (∀ g, vl'.ownBlock = some g → vl.ownBlock = some g ∨ w.heap.size ≤ g) ∧ (∀ g, vm'.ownBlock = some g → vm.ownBlock = some g ∨ w.heap.size ≤ g) ∧ Kp (fun q => q = b ∨ vl.ownBlock = some q ∨ vm.ownBlock = some q) w w'
section
variable {F : Nat → Prop} {w w' : World} {b next : Nat} {v vl vm : Value} {ls : List (Int × Int)} {ms : List Mo}
theorem ownsS_block {e : TypeId} {s n : Nat} {xs : List Value} (h : w.ownsS e s v n xs) : ∀ g, v.ownBlock = some g → ∃ cur, w.heap[g]? = some (.cells cur e (0, 0)) := by
  intro g hg
  rcases h.2 with ⟨e1, _⟩ | ⟨g', cap, cur, e1, hgg, _⟩
  · rw [e1] at hg; cases hg
  · rw [e1] at hg
    have : g' = g := by injection hg
    subst this
    exact ⟨cur, hgg⟩
theorem RNt.bl (h : RNt w b vl vm ls ms next) : vl.ownBlock ≠ some b := fun e => by
  obtain ⟨cur, hc⟩ := ownsS_block h.lr b e
  rw [h.main] at hc
  injection hc with hc
  injection hc with _ hc
  exact absurd hc (by decide)
theorem RNt.bm (h : RNt w b vl vm ls ms next) : vm.ownBlock ≠ some b := fun e => by
  obtain ⟨cur, hc⟩ := ownsS_block h.mr b e
  rw [h.main] at hc
  injection hc with hc
  injection hc with _ hc
  exact absurd hc (by decide)
theorem RNt.lm (h : RNt w b vl vm ls ms next) {g : Nat} (h1 : vl.ownBlock = some g) : vm.ownBlock ≠ some g := fun e => by
  obtain ⟨cur, hc⟩ := ownsS_block h.mr g e
  obtain ⟨cur2, hc2⟩ := ownsS_block h.lr g h1
  rw [hc2] at hc
  injection hc with hc
  injection hc with _ hc
  exact absurd hc (by decide)
theorem RNt.kp (h : RNt w b vl vm ls ms next) (hk : Kp F w w') (hb : ¬ F b) (hl : ∀ g, vl.ownBlock = some g → ¬ F g) (hm : ∀ g, vm.ownBlock = some g → ¬ F g) : RNt w' b vl vm ls ms next :=
  ⟨(hk.block b (Array.getElem?_eq_some_iff.1 h.main).1 hb).trans h.main, hk.rowS h.lr hl, hk.rowS h.mr hm⟩
theorem RNt.same (h : RNt w b vl vm ls ms next) (hk : Kp (fun _ => False) w w') : RNt w' b vl vm ls ms next := h.kp hk (fun e => e) (fun _ _ e => e) (fun _ _ e => e)
theorem RNt.facts (h : RNt w b vl vm ls ms next) : w.cell? ⟨b, 0, none⟩ = some vl ∧ w.cell? ⟨b, 1, none⟩ = some vm ∧ w.cell? ⟨b, 2, none⟩ = some (.int .i64 (next : Nat)) ∧ ∀ j, w.frozen? ⟨b, j, none⟩ = false :=
  ⟨by rw [cell_of_row w b 0 _ _ _ h.main]; rfl, by rw [cell_of_row w b 1 _ _ _ h.main]; rfl, by rw [cell_of_row w b 2 _ _ _ h.main]; rfl, fun j => by simp [World.frozen?, h.main]⟩
theorem RTo.quiet (h : RNt w b vl vm ls ms next) {e : Ending} (he : e = .returned v) (hk : Kp (fun _ => False) w w') : RTo w b vl vm ls ms next v e w' := ⟨he, vl, vm, h.same hk, fun _ e => .inl e, fun _ e => .inl e, hk.mono fun _ _ e => e.elim⟩
/-- the row of links is another one -/
theorem RNt.setl (h : RNt w b vl vm ls ms next) {w1 w2 : World} {vl' : Value} {ls' : List (Int × Int)} (k1 : Kp (fun _ => False) w w1) (k2 : Kp (fun q => vl.ownBlock = some q) w1 w2) (ho : w2.ownsS 76 2 vl' ls'.length (lkC ls')) (hat : ∀ g, vl'.ownBlock = some g → vl.ownBlock = some g ∨ w.heap.size ≤ g) (v : Value) :
    w2.cell? ⟨b, 0, none⟩ = some vl ∧ (∀ j, w2.frozen? ⟨b, j, none⟩ = false) ∧ RTo w b vl vm ls' ms next v (.returned v) (w2.setCell ⟨b, 0, none⟩ vl') := by
  have h2 : RNt w1 b vl vm ls ms next := h.same k1
  have hm2 : w2.heap[b]? = some (.cells #[vl, vm, .int .i64 (next : Nat)] 59 (0, 0)) := (k2.block b (Array.getElem?_eq_some_iff.1 h2.main).1 h.bl).trans h2.main
  have hmr2 := k2.rowS h2.mr (fun g hg e => h.lm e hg)
  have hvb : vl'.ownBlock ≠ some b := fun e => by
    obtain ⟨cur, hc⟩ := ownsS_block ho b e
    rw [hm2] at hc
    injection hc with hc
    injection hc with _ hc
    exact absurd hc (by decide)
  have k3 : Kp (fun q => q = b) w2 (w2.setCell ⟨b, 0, none⟩ vl') := (Kp.refl (fun q => q = b) w2).setCell _ _ (.inl rfl)
  have hblt := (Array.getElem?_eq_some_iff.1 h.main).1
  refine ⟨by rw [cell_of_row w2 b 0 _ _ _ hm2]; rfl, fun j => by simp [World.frozen?, hm2], rfl, vl', vm, ⟨lk_heap_set hm2 _, k3.rowS ho (fun g hg e => hvb (by rw [← e]; exact hg)), k3.rowS hmr2 (fun g hg e => h.bm (by rw [← e]; exact hg))⟩, hat, fun _ e => .inl e, ?_⟩
  exact ((k1.mono fun _ _ e => e.elim).trans' (k2.mono fun _ _ e => .inr (.inl e))).trans' (k3.mono fun _ _ e => .inl e)
/-- the row of monitors is another one -/
theorem RNt.setm (h : RNt w b vl vm ls ms next) {w1 w2 : World} {vm' : Value} {ms' : List Mo} (k1 : Kp (fun _ => False) w w1) (k2 : Kp (fun q => vm.ownBlock = some q) w1 w2) (ho : w2.ownsS 80 3 vm' ms'.length (moC ms')) (hat : ∀ g, vm'.ownBlock = some g → vm.ownBlock = some g ∨ w.heap.size ≤ g) (v : Value) :
    w2.cell? ⟨b, 1, none⟩ = some vm ∧ (∀ j, w2.frozen? ⟨b, j, none⟩ = false) ∧ RTo w b vl vm ls ms' next v (.returned v) (w2.setCell ⟨b, 1, none⟩ vm') := by
  have h2 : RNt w1 b vl vm ls ms next := h.same k1
  have hm2 : w2.heap[b]? = some (.cells #[vl, vm, .int .i64 (next : Nat)] 59 (0, 0)) := (k2.block b (Array.getElem?_eq_some_iff.1 h2.main).1 h.bm).trans h2.main
  have hlr2 := k2.rowS h2.lr (fun g hg e => h.lm hg e)
  have hvb : vm'.ownBlock ≠ some b := fun e => by
    obtain ⟨cur, hc⟩ := ownsS_block ho b e
    rw [hm2] at hc
    injection hc with hc
    injection hc with _ hc
    exact absurd hc (by decide)
  have k3 : Kp (fun q => q = b) w2 (w2.setCell ⟨b, 1, none⟩ vm') := (Kp.refl (fun q => q = b) w2).setCell _ _ (.inl rfl)
  refine ⟨by rw [cell_of_row w2 b 1 _ _ _ hm2]; rfl, fun j => by simp [World.frozen?, hm2], rfl, vl, vm', ⟨lk_heap_set hm2 _, k3.rowS hlr2 (fun g hg e => h.bl (by rw [← e]; exact hg)), k3.rowS ho (fun g hg e => hvb (by rw [← e]; exact hg))⟩, fun _ e => .inl e, hat, ?_⟩
  exact ((k1.mono fun _ _ e => e.elim).trans' (k2.mono fun _ _ e => .inr (.inr e))).trans' (k3.mono fun _ _ e => .inl e)
end
end Go.Proofs.Ytmfhmnlgffgcgaa
