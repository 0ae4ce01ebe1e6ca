/- Links and monitors as plain data: pairs in a row. -/
import Derived.Test.YtmfhmnlgffgcgaaFrame
namespace Go.Proofs.Ytmfhmnlgffgcgaa
set_option linter.unusedVariables false

/-- what one has, in the order in which it was given -/
def colOf (S : List (Int × Int)) (a : Int) : List Int := (S.filter fun p => decide (p.1 = a)).map Prod.snd
/-- without a pair -/
def butPair (S : List (Int × Int)) (p : Int × Int) : List (Int × Int) := S.filter fun q => !decide (q = p)
/-- a row whose last one goes where one is taken away -/
def cutAt (l : List Int) (i : Nat) (y : Int) : List Int := (l.set i y).take (l.length - 1)
section
variable {S T : List (Int × Int)} {a c x y z : Int} {l : List Int} {i j : Nat}
theorem mem_colOf : x ∈ colOf S a ↔ (a, x) ∈ S := by
  unfold colOf
  constructor
  · intro h
    obtain ⟨p, hp, rfl⟩ := List.mem_map.1 h
    obtain ⟨h1, h2⟩ := List.mem_filter.1 hp
    have h3 : p.1 = a := by simpa using h2
    rw [← h3]
    exact h1
  · intro h
    exact List.mem_map.2 ⟨(a, x), List.mem_filter.2 ⟨h, by simp⟩, rfl⟩
theorem colOf_app : colOf (S ++ T) a = colOf S a ++ colOf T a := by simp [colOf]
theorem colOf_one : colOf [(a, x)] a = [x] := by simp [colOf]
theorem colOf_other (h : c ≠ a) : colOf [(a, x)] c = [] := by simp [colOf]; exact fun e => h e.symm
theorem colOf_nodup (h : S.Nodup) (a : Int) : (colOf S a).Nodup := by
  unfold colOf
  induction S with
  | nil => simp
  | cons p S ih =>
    rw [List.nodup_cons] at h
    by_cases e : p.1 = a
    · rw [List.filter_cons_of_pos (by simpa using e), List.map_cons, List.nodup_cons]
      refine ⟨fun hm => ?_, ih h.2⟩
      have h1 := mem_colOf.1 hm
      rw [← e] at h1
      exact h.1 h1
    · rw [List.filter_cons_of_neg (by simpa using e)]
      exact ih h.2
theorem mem_butPair {p q : Int × Int} : q ∈ butPair S p ↔ q ∈ S ∧ q ≠ p := by
  unfold butPair
  rw [List.mem_filter]
  simp
theorem butPair_nodup (h : S.Nodup) (p : Int × Int) : (butPair S p).Nodup := h.filter _
theorem butPair_none {p : Int × Int} (h : p ∉ S) : butPair S p = S := by
  unfold butPair
  rw [List.filter_eq_self]
  intro q hq
  simp
  exact fun e => h (e ▸ hq)
theorem butPair_len {p : Int × Int} (h : S.Nodup) (hp : p ∈ S) : (butPair S p).length + 1 = S.length := by
  induction S with
  | nil => cases hp
  | cons q S ih =>
    rw [List.nodup_cons] at h
    by_cases e : q = p
    · subst e
      have : butPair (q :: S) q = S := by
        unfold butPair
        rw [List.filter_cons_of_neg (by simp)]
        exact butPair_none h.1
      rw [this]
      rfl
    · have hp2 : p ∈ S := by
        rcases List.mem_cons.1 hp with h1 | h1
        · exact absurd h1.symm e
        · exact h1
      have : butPair (q :: S) p = q :: butPair S p := by
        unfold butPair
        rw [List.filter_cons_of_pos (by simpa using e)]
      rw [this]
      have := ih h.2 hp2
      simp at this ⊢
      omega
theorem colOf_but : colOf (butPair S (a, x)) a = (colOf S a).filter fun z => !decide (z = x) := by
  unfold colOf butPair
  induction S with
  | nil => rfl
  | cons p S ih =>
    by_cases e : p.1 = a
    · by_cases e2 : p.2 = x
      · have : p = (a, x) := Prod.ext e e2
        rw [List.filter_cons_of_neg (by simpa using this), ih, List.filter_cons_of_pos (by simpa using e), List.map_cons, List.filter_cons_of_neg (by simpa using e2)]
      · have : p ≠ (a, x) := fun h => e2 (by rw [h])
        rw [List.filter_cons_of_pos (by simpa using this), List.filter_cons_of_pos (by simpa using e), List.map_cons, ih, List.filter_cons_of_pos (by simpa using e), List.map_cons, List.filter_cons_of_pos (by simpa using e2)]
    · have : p ≠ (a, x) := fun h => e (by rw [h])
      rw [List.filter_cons_of_pos (by simpa using this), List.filter_cons_of_neg (by simpa using e), ih, List.filter_cons_of_neg (by simpa using e)]
theorem colOf_but_other (h : c ≠ a) : colOf (butPair S (a, x)) c = colOf S c := by
  unfold colOf butPair
  rw [List.filter_filter]
  congr 1
  apply List.filter_congr
  intro p _
  by_cases e : p.1 = c
  · have : p ≠ (a, x) := fun e2 => h (by rw [← e, e2])
    simp [e, this]
  · simp [e]
theorem filter_ne_self {l : List Int} (h : x ∉ l) : (l.filter fun z => !decide (z = x)) = l := by
  rw [List.filter_eq_self]
  intro z hz
  simp
  exact fun e => h (e ▸ hz)
/-- all others stay -/
theorem cutAt_perm (hn : l.Nodup) (hi : l[i]? = some x) (hy : l[l.length - 1]? = some y) : (cutAt l i y).Perm (l.filter fun z => !decide (z = x)) := by
  obtain ⟨hlt, hx⟩ := List.getElem?_eq_some_iff.1 hi
  obtain ⟨A, B, rfl, hA⟩ : ∃ A B, l = A ++ x :: B ∧ A.length = i := by
    refine ⟨l.take i, l.drop (i + 1), ?_, by simp; omega⟩
    rw [← hx, List.getElem_cons_drop, List.take_append_drop]
  subst hA
  have hxA : x ∉ A := fun h => by
    rw [List.nodup_append] at hn
    exact hn.2.2 x h x (by simp) rfl
  have hxB : x ∉ B := fun h => by
    rw [List.nodup_append, List.nodup_cons] at hn
    exact hn.2.1.1 h
  have e1 : ((A ++ x :: B).filter fun z => !decide (z = x)) = A ++ B := by
    rw [List.filter_append, List.filter_cons_of_neg (by simp), filter_ne_self hxA, filter_ne_self hxB]
  rw [e1]
  unfold cutAt
  rw [List.set_append_right _ _ (by omega), Nat.sub_self, List.set_cons_zero]
  rcases List.eq_nil_or_concat B with rfl | ⟨B', y', rfl⟩
  · simp
  · have hy' : y' = y := by
      rw [List.getElem?_append_right (by simp)] at hy
      simp at hy
      exact hy
    subst hy'
    simp only [List.concat_eq_append]
    have : (A ++ y' :: (B' ++ [y'])).take ((A ++ x :: (B' ++ [y'])).length - 1) = A ++ y' :: B' := by
      rw [show A ++ y' :: (B' ++ [y']) = (A ++ y' :: B') ++ [y'] by simp]
      exact List.take_left' (by simp)
    rw [this]
    exact List.Perm.append_left A (List.perm_append_singleton y' B').symm
theorem cutAt_get (hn : l.Nodup) (hi : l[i]? = some x) (hy : l[l.length - 1]? = some y) (hj : l[j]? = some z) (hz : z ≠ x) : (cutAt l i y)[if z = y then i else j]? = some z := by
  obtain ⟨hlt, hx⟩ := List.getElem?_eq_some_iff.1 hi
  obtain ⟨hlj, hjz⟩ := List.getElem?_eq_some_iff.1 hj
  obtain ⟨hle, hey⟩ := List.getElem?_eq_some_iff.1 hy
  unfold cutAt
  by_cases e : z = y
  · rw [if_pos e]
    have hie : i ≠ l.length - 1 := by
      intro h
      subst h
      exact hz (by rw [e, ← hey, hx])
    rw [List.getElem?_take_of_lt (by omega), List.getElem?_set_self hlt, e]
  · rw [if_neg e]
    have hje : j ≠ l.length - 1 := by
      intro h
      subst h
      exact e (by rw [← hjz, hey])
    have hji : i ≠ j := by
      intro h
      subst h
      exact hz (by rw [← hjz, hx])
    rw [List.getElem?_take_of_lt (by omega), List.getElem?_set_ne hji, hj]
/-- the lower one first -/
def lk (a b : Int) : Int × Int := if a < b then (a, b) else (b, a)
/-- links from both sides -/
def both (ls : List (Int × Int)) : List (Int × Int) := ls.flatMap fun p => [(p.1, p.2), (p.2, p.1)]
/-- links that may be -/
def LkOk (ls : List (Int × Int)) : Prop := ls.Nodup ∧ ∀ p ∈ ls, p.1 < p.2
/-- a monitor -/
structure Mo where
  ref : Int
  who : Int
  whom : Int
def byWho (ms : List Mo) : List (Int × Int) := ms.map fun m => (m.who, m.ref)
def byWhom (ms : List Mo) : List (Int × Int) := ms.map fun m => (m.whom, m.ref)
/-- monitors that may be: their references rise -/
def MoOk (next : Nat) (ms : List Mo) : Prop := ms.Pairwise (fun m n => m.ref < n.ref) ∧ ∀ m ∈ ms, 0 ≤ m.ref ∧ m.ref < next
def butRef (ms : List Mo) (r : Int) : List Mo := ms.filter fun m => !decide (m.ref = r)
variable {ls : List (Int × Int)} {ms : List Mo} {next : Nat} {b r : Int}
theorem lk_comm (a b : Int) : lk a b = lk b a := by
  unfold lk
  split <;> split
  · omega
  · rfl
  · rfl
  · rw [show a = b by omega]
theorem lk_lt (h : a ≠ b) : (lk a b).1 < (lk a b).2 := by
  unfold lk
  split
  · assumption
  · show b < a
    omega
theorem lk_self {p : Int × Int} (hp : p.1 < p.2) : lk p.1 p.2 = p := by
  unfold lk
  rw [if_pos hp]
theorem lk_eq {p : Int × Int} (hp : p.1 < p.2) : p = lk a b ↔ (p.1 = a ∧ p.2 = b) ∨ (p.2 = a ∧ p.1 = b) := by
  unfold lk
  split
  · constructor
    · rintro rfl
      exact .inl ⟨rfl, rfl⟩
    · rintro (⟨h1, h2⟩ | ⟨h1, h2⟩)
      · exact Prod.ext h1 h2
      · omega
  · constructor
    · rintro rfl
      exact .inr ⟨rfl, rfl⟩
    · rintro (⟨h1, h2⟩ | ⟨h1, h2⟩)
      · omega
      · exact Prod.ext h2 h1
theorem mem_both (h : LkOk ls) : (a, b) ∈ both ls ↔ lk a b ∈ ls := by
  unfold both
  rw [List.mem_flatMap]
  constructor
  · rintro ⟨p, hp, hm⟩
    simp at hm
    have : p = lk a b := (lk_eq (h.2 p hp)).2 (hm.imp (fun e => ⟨e.1.symm, e.2.symm⟩) (fun e => ⟨e.1.symm, e.2.symm⟩))
    rw [← this]
    exact hp
  · intro hm
    refine ⟨_, hm, ?_⟩
    have := (lk_eq (a := a) (b := b) (h.2 _ hm)).1 rfl
    simp
    rcases this with ⟨h1, h2⟩ | ⟨h1, h2⟩
    · exact .inl ⟨h1.symm, h2.symm⟩
    · exact .inr ⟨h1.symm, h2.symm⟩
theorem both_ne (h : LkOk ls) (hm : (a, b) ∈ both ls) : a ≠ b := by
  intro e
  subst e
  have h1 := h.2 _ ((mem_both h).1 hm)
  unfold lk at h1
  split at h1
  · omega
  · exact absurd h1 (Int.lt_irrefl _)
theorem both_symm (h : LkOk ls) : (a, b) ∈ both ls ↔ (b, a) ∈ both ls := by rw [mem_both h, mem_both h, lk_comm]
theorem both_nodup (h : LkOk ls) : (both ls).Nodup := by
  obtain ⟨h1, h2⟩ := h
  induction ls with
  | nil => simp [both]
  | cons p ls ih =>
    rw [List.nodup_cons] at h1
    have h3 : LkOk ls := ⟨h1.2, fun q hq => h2 q (by simp [hq])⟩
    have hp := h2 p (by simp)
    have hr := lk_self (p := p) hp
    have e : both (p :: ls) = (p.1, p.2) :: (p.2, p.1) :: both ls := rfl
    rw [e, List.nodup_cons, List.nodup_cons]
    refine ⟨fun hm => ?_, fun hm => ?_, ih h1.2 h3.2⟩
    · rcases List.mem_cons.1 hm with e2 | e2
      · injection e2 with e3 e4
        omega
      · rw [mem_both h3, hr] at e2
        exact h1.1 e2
    · rw [mem_both h3, lk_comm, hr] at hm
      exact h1.1 hm
theorem both_app (a b : Int) : (both ls ++ [(a, b)] ++ [(b, a)]).Perm (both (ls ++ [lk a b])) := by
  have e : both (ls ++ [lk a b]) = both ls ++ [((lk a b).1, (lk a b).2), ((lk a b).2, (lk a b).1)] := by simp [both]
  rw [e, List.append_assoc]
  refine List.Perm.append_left _ ?_
  unfold lk
  split
  · exact List.Perm.refl _
  · exact List.Perm.swap _ _ _
theorem LkOk.app (h : LkOk ls) (hab : a ≠ b) (hn : lk a b ∉ ls) : LkOk (ls ++ [lk a b]) := by
  refine ⟨List.nodup_append.2 ⟨h.1, by simp, ?_⟩, fun p hp => ?_⟩
  · intro x hx y hy e
    simp at hy
    exact hn (by rw [← hy, ← e]; exact hx)
  · rcases List.mem_append.1 hp with hp | hp
    · exact h.2 p hp
    · simp at hp
      rw [hp]
      exact lk_lt hab
theorem LkOk.but (h : LkOk ls) (p : Int × Int) : LkOk (butPair ls p) := ⟨butPair_nodup h.1 p, fun q hq => h.2 q (mem_butPair.1 hq).1⟩
theorem both_but (h : LkOk ls) (a b : Int) : butPair (butPair (both ls) (a, b)) (b, a) = both (butPair ls (lk a b)) := by
  obtain ⟨h1, h2⟩ := h
  clear h1
  unfold butPair
  rw [List.filter_filter]
  induction ls with
  | nil => rfl
  | cons p ls ih =>
    have hp := h2 p (by simp)
    have ih := ih fun q hq => h2 q (by simp [hq])
    have e : both (p :: ls) = (p.1, p.2) :: (p.2, p.1) :: both ls := rfl
    rw [e]
    by_cases hq : p = lk a b
    · rw [List.filter_cons_of_neg (p := fun q => !decide (q = lk a b)) (by simpa using hq), ← ih]
      have := (lk_eq hp).1 hq
      rw [List.filter_cons_of_neg, List.filter_cons_of_neg]
      · rcases this with ⟨h3, h4⟩ | ⟨h3, h4⟩ <;> simp [h3, h4]
      · rcases this with ⟨h3, h4⟩ | ⟨h3, h4⟩ <;> simp [h3, h4]
    · rw [List.filter_cons_of_pos (p := fun q => !decide (q = lk a b)) (by simpa using hq)]
      have e3 : ∀ l, both (p :: l) = (p.1, p.2) :: (p.2, p.1) :: both l := fun _ => rfl
      rw [e3, ← ih]
      have hn := fun e => hq ((lk_eq hp).2 e)
      have n1 : (p.1, p.2) ≠ (a, b) := fun e => by injection e with e1 e2; exact hn (.inl ⟨e1, e2⟩)
      have n2 : (p.1, p.2) ≠ (b, a) := fun e => by injection e with e1 e2; exact hn (.inr ⟨e2, e1⟩)
      have n3 : (p.2, p.1) ≠ (a, b) := fun e => by injection e with e1 e2; exact hn (.inr ⟨e1, e2⟩)
      have n4 : (p.2, p.1) ≠ (b, a) := fun e => by injection e with e1 e2; exact hn (.inl ⟨e2, e1⟩)
      rw [List.filter_cons_of_pos (by rw [decide_eq_false n1, decide_eq_false n2]; rfl), List.filter_cons_of_pos (by rw [decide_eq_false n3, decide_eq_false n4]; rfl)]
theorem both_len (ls : List (Int × Int)) : (both ls).length = 2 * ls.length := by
  unfold both
  induction ls with
  | nil => rfl
  | cons p ls ih => simp at ih ⊢; omega
theorem MoOk.uniq (h : MoOk next ms) {m n : Mo} (hm : m ∈ ms) (hn : n ∈ ms) (e : m.ref = n.ref) : m = n := by
  obtain ⟨h1, -⟩ := h
  induction ms with
  | nil => cases hm
  | cons k ms ih =>
    rw [List.pairwise_cons] at h1
    rcases List.mem_cons.1 hm with e1 | m1
    · rcases List.mem_cons.1 hn with e2 | n1
      · rw [e1, e2]
      · have := h1.1 n n1
        rw [e1] at e
        omega
    · rcases List.mem_cons.1 hn with e2 | n1
      · have := h1.1 m m1
        rw [e2] at e
        omega
      · exact ih m1 n1 h1.2
theorem mem_byWho {a r : Int} : (a, r) ∈ byWho ms ↔ ∃ m ∈ ms, m.who = a ∧ m.ref = r := by
  unfold byWho
  rw [List.mem_map]
  constructor
  · rintro ⟨m, hm, e⟩
    injection e with e1 e2
    exact ⟨m, hm, e1, e2⟩
  · rintro ⟨m, hm, rfl, rfl⟩
    exact ⟨m, hm, rfl⟩
theorem mem_byWhom {a r : Int} : (a, r) ∈ byWhom ms ↔ ∃ m ∈ ms, m.whom = a ∧ m.ref = r := by
  unfold byWhom
  rw [List.mem_map]
  constructor
  · rintro ⟨m, hm, e⟩
    injection e with e1 e2
    exact ⟨m, hm, e1, e2⟩
  · rintro ⟨m, hm, rfl, rfl⟩
    exact ⟨m, hm, rfl⟩
theorem pair_nodup (h : MoOk next ms) (f : Mo → Int × Int) (hf : ∀ m, (f m).2 = m.ref) : (ms.map f).Nodup := by
  obtain ⟨h1, -⟩ := h
  unfold List.Nodup
  rw [List.pairwise_map]
  refine h1.imp fun {m n} e e2 => ?_
  have := congrArg Prod.snd e2
  rw [hf, hf] at this
  omega
theorem byWho_nodup (h : MoOk next ms) : (byWho ms).Nodup := pair_nodup h _ fun _ => rfl
theorem byWhom_nodup (h : MoOk next ms) : (byWhom ms).Nodup := pair_nodup h _ fun _ => rfl
theorem map_but (h : MoOk next ms) {m : Mo} (hm : m ∈ ms) (f : Mo → Int × Int) (hf : ∀ m, (f m).2 = m.ref) : butPair (ms.map f) (f m) = (butRef ms m.ref).map f := by
  unfold butPair butRef
  rw [List.filter_map]
  congr 1
  apply List.filter_congr
  intro n hn
  show (!decide (f n = f m)) = _
  by_cases e : n.ref = m.ref
  · rw [h.uniq hn hm e]
    simp
  · have : f n ≠ f m := fun e2 => e (by rw [← hf, ← hf, e2])
    simp [e, this]
theorem byWho_but (h : MoOk next ms) {m : Mo} (hm : m ∈ ms) : butPair (byWho ms) (m.who, m.ref) = byWho (butRef ms m.ref) := map_but h hm _ fun _ => rfl
theorem byWhom_but (h : MoOk next ms) {m : Mo} (hm : m ∈ ms) : butPair (byWhom ms) (m.whom, m.ref) = byWhom (butRef ms m.ref) := map_but h hm _ fun _ => rfl
theorem mem_butRef {m : Mo} : m ∈ butRef ms r ↔ m ∈ ms ∧ m.ref ≠ r := by
  unfold butRef
  rw [List.mem_filter]
  simp
theorem MoOk.filter (h : MoOk next ms) (f : Mo → Bool) : MoOk next (ms.filter f) := ⟨h.1.filter f, fun m hm => h.2 m (List.mem_filter.1 hm).1⟩
theorem MoOk.but (h : MoOk next ms) (r : Int) : MoOk next (butRef ms r) := h.filter _
theorem MoOk.app (h : MoOk next ms) (a b : Int) : MoOk (next + 1) (ms ++ [⟨(next : Nat), a, b⟩]) := by
  refine ⟨List.pairwise_append.2 ⟨h.1, by simp, fun m hm n hn => ?_⟩, fun m hm => ?_⟩
  · simp at hn
    rw [hn]
    exact (h.2 m hm).2
  · rcases List.mem_append.1 hm with hm | hm
    · have := h.2 m hm
      omega
    · simp at hm
      rw [hm]
      simp
      omega
theorem butRef_len (h : MoOk next ms) {m : Mo} (hm : m ∈ ms) : (butRef ms m.ref).length + 1 = ms.length := by
  have h1 := butPair_len (byWho_nodup h) (mem_byWho.2 ⟨m, hm, rfl, rfl⟩)
  rw [byWho_but h hm] at h1
  simpa [byWho] using h1
/-- the monitor of that reference -/
def moOf (ms : List Mo) (r : Int) : Option Mo := ms.find? fun m => decide (m.ref = r)
theorem moOf_some {m : Mo} (h : moOf ms r = some m) : m ∈ ms ∧ m.ref = r := by
  refine ⟨List.mem_of_find?_eq_some h, ?_⟩
  have := List.find?_some h
  simpa using this
theorem moOf_none (h : moOf ms r = none) : ∀ m ∈ ms, m.ref ≠ r := by
  intro m hm
  have := List.find?_eq_none.1 h m hm
  simpa using this
theorem moOf_mem (h : MoOk next ms) {m : Mo} (hm : m ∈ ms) : moOf ms m.ref = some m := by
  cases hf : moOf ms m.ref with
  | none => exact absurd rfl (moOf_none hf m hm)
  | some n =>
    obtain ⟨h1, h2⟩ := moOf_some hf
    rw [h.uniq h1 hm h2]
/-- rising references stay as they are -/
theorem whom_sorted (h : MoOk next ms) (a : Int) : (colOf (byWhom ms) a).Pairwise (· < ·) := by
  unfold colOf byWhom
  rw [List.filter_map, List.map_map, List.pairwise_map]
  exact (h.1.filter _)
theorem who_sorted (h : MoOk next ms) (a : Int) : (colOf (byWho ms) a).Pairwise (· < ·) := by
  unfold colOf byWho
  rw [List.filter_map, List.map_map, List.pairwise_map]
  exact (h.1.filter _)
end
/-- sorted -/
def srt (l : List Int) : List Int := l.mergeSort fun x y => decide (x ≤ y)
theorem srt_perm (l : List Int) : (srt l).Perm l := List.mergeSort_perm _ _
theorem srt_pw (l : List Int) : (srt l).Pairwise fun x y => x ≤ y := by
  have h := List.pairwise_mergeSort (le := fun x y : Int => decide (x ≤ y)) (fun a b c h1 h2 => by simp at *; omega) (fun a b => by simp; omega) l
  exact h.imp (fun h => by simpa using h)
theorem srt_of_perm {l l' : List Int} (h : l.Perm l') : srt l = srt l' :=
  (((srt_perm l).trans h).trans (srt_perm l').symm).eq_of_pairwise (fun a b _ _ h1 h2 => Int.le_antisymm h1 h2) (srt_pw l) (srt_pw l')
theorem srt_self {l : List Int} (h : l.Pairwise (· < ·)) : srt l = l := List.mergeSort_of_pairwise (h.imp fun h => by simpa using Int.le_of_lt h)
theorem mem_srt {l : List Int} {x : Int} : x ∈ srt l ↔ x ∈ l := (srt_perm l).mem_iff
theorem srt_len (l : List Int) : (srt l).length = l.length := (srt_perm l).length_eq
theorem srt_nodup {l : List Int} (h : l.Nodup) : (srt l).Nodup := (srt_perm l).nodup_iff.2 h
end Go.Proofs.Ytmfhmnlgffgcgaa
