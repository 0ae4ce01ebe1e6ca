/- The invariant of ArenaApart: what was written to each block that is taken is there; and an arena beside several slices, from which elements are cut out. -/
import Derived.Test.YthilajdjkglkkaaMany
import Derived.Test.YthilajdjkglkkaaWide
namespace Go.Proofs.Ythilajdjkglkkaa
open Go.RowKit

structure Wid (w wr : World) (F : Nat → Prop) (b : Nat) (A : Ar) (n : Nat) (et : Nat → TypeId) (rows : Nat → List Value) (sl : Nat → Value) : Prop where
  new : ∀ q, F q → w.heap.size ≤ q
  rep : Rep wr F b A
  out : ∀ i g, i < n → (sl i).ownBlock = some g → ¬ F g
  row : ∀ i, i < n → wr.ownsW w.heap.size (et i) (sl i) (rows i).length (rows i)
  apart : ∀ i j g, i < n → j < n → (sl i).ownBlock = some g → (sl j).ownBlock = some g → i = j
  kp : Kp (fun _ => False) w wr

section
variable {w wr w' : World} {F : Nat → Prop} {b : Nat} {A A' : Ar} {n : Nat} {et : Nat → TypeId} {rows : Nat → List Value} {sl : Nat → Value}

theorem Wid.start (hk : Kp (fun _ => False) w wr) (h : Rep wr (only b) b A) (hb : w.heap.size ≤ b) (n : Nat) (et : Nat → TypeId) : Wid w wr (only b) b A n et (fun _ => []) (fun _ => .slice none 0 0) :=
  ⟨fun q hq => by rw [hq]; exact hb, h, fun i g _ hg => by simp [Value.ownBlock] at hg, fun i _ => ownsW_nil _ _ _, fun i j g _ _ hg => by simp [Value.ownBlock] at hg, hk⟩
theorem Wid.step (h : Wid w wr F b A n et rows sl) (hR : Rep w' (Ext F wr w') b A') (hk : Kp F wr w') : Wid w w' (Ext F wr w') b A' n et rows sl := by
  have hz := h.kp.size
  refine ⟨?_, hR, ?_, fun i hi => hk.roww (h.row i hi) (fun g hg => h.out i g hi hg), h.apart, h.kp.trans (hk.mono fun q hq hF => .inr ⟨h.new q hF, hq⟩)⟩
  · intro q hq
    rcases hq with hq | hq
    · exact h.new q hq
    · omega
  · intro i g hi hg hF
    rcases hF with hF | hF
    · exact h.out i g hi hg hF
    · have := (ownsW_lt (h.row i hi) g hg).2; omega
theorem Wid.same (h : Wid w wr F b A n et rows sl) (hR : Rep w' F b A') (hk : Kp F wr w') : Wid w w' F b A' n et rows sl :=
  ⟨h.new, hR, h.out, fun i hi => hk.roww (h.row i hi) (fun g hg => h.out i g hi hg), h.apart, h.kp.trans (hk.mono fun q hq hF => .inr ⟨h.new q hF, hq⟩)⟩
theorem Wid.bad (h : Wid w wr F b A n et rows sl) (hR : Rep w' F b A) (hk : Kp (fun _ => False) wr w') : Wid w w' F b A n et rows sl :=
  h.same hR (hk.mono fun _ _ e => e.elim)
/-- slice i becomes another, in its own row or in a new one -/
theorem Wid.turn (h : Wid w wr F b A n et rows sl) (i : Nat) (hi : i < n) {xs : List Value} {v : Value} {w2 : World} (hown : w2.ownsW w.heap.size (et i) v xs.length xs)
    (hk : Kp (fun q => (sl i).ownBlock = some q) wr w2) (hat : ∀ g, v.ownBlock = some g → (sl i).ownBlock = some g ∨ wr.heap.size ≤ g) : Wid w w2 F b A n et (upd rows i xs) (upd sl i v) := by
  refine ⟨h.new, h.rep.besides hk (fun q hF hv => h.out i q hi hv hF), ?_, ?_, ?_, h.kp.trans (hk.mono fun q hq hv => .inr (ownsW_lt (h.row i hi) q hv))⟩
  · intro j g hj hg hF
    by_cases e : j = i
    · subst e
      rw [upd_same] at hg
      rcases hat g hg with e | e
      · exact h.out j g hj e hF
      · have := h.rep.ltF g hF; omega
    · rw [upd_other _ _ e] at hg
      exact h.out j g hj hg hF
  · intro j hj
    by_cases e : j = i
    · subst e
      rw [upd_same, upd_same]; exact hown
    · rw [upd_other _ _ e, upd_other _ _ e]
      exact hk.roww (h.row j hj) (fun g hg hv => e (h.apart j i g hj hi hg hv))
  · intro j k g hj hk' hg1 hg2
    have far : ∀ j, j < n → j ≠ i → (sl j).ownBlock = some g → v.ownBlock = some g → False := by
      intro j hj e hg hv
      rcases hat g hv with e2 | e2
      · exact e (h.apart j i g hj hi hg e2)
      · have := (ownsW_lt (h.row j hj) g hg).2; omega
    by_cases e1 : j = i <;> by_cases e2 : k = i
    · rw [e1, e2]
    · rw [e1, upd_same] at hg1
      rw [upd_other _ _ e2] at hg2
      exact (far k hk' e2 hg2 hg1).elim
    · rw [e2, upd_same] at hg2
      rw [upd_other _ _ e1] at hg1
      exact (far j hj e1 hg1 hg2).elim
    · rw [upd_other _ _ e1] at hg1
      rw [upd_other _ _ e2] at hg2
      exact h.apart j k g hj hk' hg1 hg2
/-- a value is appended to slice i -/
theorem Wid.push (h : Wid w wr F b A n et rows sl) (i : Nat) (hi : i < n) {o : Obj} {g cap m : Nat} {x : Value} {w2 : World} (hm : (rows i).length + 1 = m)
    (hown : w2.ownsW w.heap.size (et i) (.slice (some ⟨g, 0, none⟩) m cap) m (rows i ++ [x]))
    (hg : (wr.alloc o).grownBy w2 (sl i).ownBlock) (hat : (sl i).ownBlock = some g ∨ g = wr.heap.size + 1) :
    Wid w w2 F b A n et (upd rows i (rows i ++ [x])) (upd sl i (.slice (some ⟨g, 0, none⟩) m cap)) := by
  subst hm
  have hk : Kp (fun q => (sl i).ownBlock = some q) wr w2 := ((Kp.refl _ wr).alloc o).grown hg (fun q hq => .inl hq)
  refine h.turn i hi (by simpa using hown) hk ?_
  intro g' hg'
  simp [Value.ownBlock] at hg'
  subst hg'
  rcases hat with e | e
  · exact .inl e
  · exact .inr (by omega)
/-- element j of slice i is cut out -/
theorem Wid.cut (h : Wid w wr F b A n et rows sl) (i : Nat) (hi : i < n) {g g' cap cap' j m : Nat} {w2 : World} (hs : sl i = .slice (some ⟨g, 0, none⟩) m cap) (hm : (rows i).length = m) (hj : j < m)
    (hown : w2.ownsW w.heap.size (et i) (.slice (some ⟨g', 0, none⟩) (m - 1) cap') (m - 1) ((rows i).eraseIdx j)) (hg : wr.drew.grownBy w2 none) (hat : g' = g ∨ g' = wr.heap.size) :
    Wid w w2 F b A n et (upd rows i ((rows i).eraseIdx j)) (upd sl i (.slice (some ⟨g', 0, none⟩) (m - 1) cap')) := by
  subst hm
  have hk : Kp (fun q => (sl i).ownBlock = some q) wr w2 := ((Kp.refl _ wr).drew).grown hg (fun q hq => by cases hq)
  refine h.turn i hi ?_ hk ?_
  · rw [List.length_eraseIdx_of_lt hj]; exact hown
  intro g2 hg2
  simp [Value.ownBlock] at hg2
  subst hg2
  rcases hat with e | e
  · rw [hs, e]; exact .inl rfl
  · exact .inr (by omega)
/-- what an append to slice i asks -/
theorem Wid.app (h : Wid w wr F b A n et rows sl) (i : Nat) (hi : i < n) (x : Value) (_hx : x.oneCell' = true) (hl : (rows i).length ≤ 17592186044415) :
    (∀ o, (wr.alloc o).ownsW w.heap.size (et i) (sl i) (rows i).length (rows i)) ∧ (wr.alloc (.cells #[x] (et i))).cell? ⟨wr.heap.size, 0, none⟩ = some x ∧
      (∀ o, w.heap.size ≤ (wr.alloc o).heap.size) ∧ Hid ((rows i).length + 1 ≤ maxLen ∧ ((rows i).length + 1) * 8 ≤ 140737488355328) := by
  have hz := h.kp.size
  refine ⟨fun o => ownsW_alloc (h.row i hi) o, ?_, fun o => by simp; omega, by unfold maxLen; omega, by omega⟩
  rw [cell_of_row _ _ 0 _ _ _ (heap_alloc_new wr (.cells #[x] (et i)))]
  rfl
/-- an element of slice i -/
theorem Wid.get (h : Wid w wr F b A n et rows sl) (i : Nat) (hi : i < n) (j : Nat) (x : Value) (hj : (rows i)[j]? = some x) : ∃ g cap, sl i = .slice (some ⟨g, 0, none⟩) (rows i).length cap ∧ (rows i).length ≤ cap ∧ cap ≤ 9223372036854775807 ∧ wr.cell? ⟨g, j, none⟩ = some x :=
  ownsW_get (h.row i hi) j x hj
theorem Wid.caps (h : Wid w wr F b A n et rows sl) (i : Nat) (hi : i < n) {g m cap : Nat} (hs : sl i = .slice (some ⟨g, 0, none⟩) m cap) (hm : (rows i).length = m) : m ≤ cap ∧ cap ≤ 9223372036854775807 := by
  have hr := (h.row i hi).2
  rw [hs, hm] at hr
  rcases hr with ⟨e, _⟩ | ⟨g', cap', cur, e, _, _, h2, _, h4, _⟩
  · cases e
  · injection e with _ _ e
    subst e
    exact ⟨h2, h4⟩
theorem Wid.form (h : Wid w wr F b A n et rows sl) (i : Nat) (hi : i < n) : ∃ po cap, sl i = .slice po (rows i).length cap := ownsW_form (h.row i hi)
end

/-! ### what is written to the blocks -/
/-- a block: its own place, for how many words, its mark -/
structure Bk where
  own : Nat
  n : Nat
  mark : Nat

/-- the blocks bs, each with its words; and one more (p), of which k words are written -/
structure Ap (A : Ar) (bs : List Bk) : Prop where
  inv : Inv A []
  size : A.size = 4000
  quota : A.quota = 4000
  tk : ∀ q m, A.tk q m ↔ ∃ x ∈ bs, x.own = q ∧ x.n = m
  nd : (bs.map Bk.own).Nodup
  word : ∀ x ∈ bs, ∀ k, k < x.n → A.places[x.own + 1 + k]? = some (((x.mark + k : Nat)) : Int)

structure Ap1 (A : Ar) (bs : List Bk) (p n mk k : Nat) : Prop where
  inv : Inv A []
  size : A.size = 4000
  quota : A.quota = 4000
  tk : ∀ q m, A.tk q m ↔ (q = p ∧ m = n) ∨ ∃ x ∈ bs, x.own = q ∧ x.n = m
  nd : (p :: bs.map Bk.own).Nodup
  word : ∀ x ∈ bs, ∀ k, k < x.n → A.places[x.own + 1 + k]? = some (((x.mark + k : Nat)) : Int)
  part : ∀ j, j < k → j < n → A.places[p + 1 + j]? = some (((mk + j : Nat)) : Int)

theorem Ap.new : Ap (Ar.new 4000 4000) [] :=
  ⟨Inv.new 4000 4000 (by omega) (by omega), rfl, rfl, fun q m => by simp [Ar.tk, Ar.new], by simp, fun x hx => by simp at hx⟩

theorem Ap.take {A A1 : Ar} {bs : List Bk} {n own : Nat} (h : Ap A bs) (hn : n ≤ 1048576) (hc : cls n ≤ 20) (hq : A.used + 2 ^ cls n ≤ A.quota) (hf : Found A (cls n) own A1) (mk : Nat) : Ap1 (A1.took own (cls n) n) bs own n mk 0 := by
  obtain ⟨g1, g2, g3, g4, g5, g6⟩ := alloc_tk h.inv hn hc hq hf
  have hi1 := hf.inv h.inv (cls_spec n hn).1 hc
  have hs := (cls_spec n hn).2.2.1
  have hb := hi1.bnd own (cls n) (.inr (.inr (by simp)))
  refine ⟨g1, g6.trans h.size, g5.trans h.quota, fun q m => ?_, ?_, ?_, fun j hj => by omega⟩
  · rw [g2, h.tk]
    constructor
    · rintro (e | ⟨_, e⟩)
      · exact .inl e
      · exact .inr e
    · rintro (e | ⟨x, hx, rfl, rfl⟩)
      · exact .inl e
      · exact .inr ⟨fun e => g3 x.n (e ▸ (h.tk x.own x.n).2 ⟨x, hx, rfl, rfl⟩), x, hx, rfl, rfl⟩
  · rw [List.nodup_cons]
    refine ⟨fun hm => ?_, h.nd⟩
    obtain ⟨x, hx, e⟩ := List.mem_map.1 hm
    exact g3 x.n (e ▸ (h.tk x.own x.n).2 ⟨x, hx, rfl, rfl⟩)
  · intro x hx k hk
    have htk := (h.tk x.own x.n).2 ⟨x, hx, rfl, rfl⟩
    have hbx := h.inv.block htk
    have hd := hi1.dis x.own (cls x.n) own (cls n) (.inl ⟨x.n, (hf.tk h.inv x.own x.n).2 htk, rfl⟩) (.inr (.inr (by simp))) (.inl (fun e => g3 x.n (e ▸ htk)))
    rw [took_far (by omega) (by omega), (hf.old h.inv _).1 (by omega)]
    exact h.word x hx k hk

theorem Ap1.put {A : Ar} {bs : List Bk} {p n mk k : Nat} (h : Ap1 A bs p n mk k) (hk : k < n) : Ap1 (A.put (p + 1 + k) ((mk + k : Nat) : Int)) bs p n mk (k + 1) := by
  have htk := (h.tk p n).2 (.inl ⟨rfl, rfl⟩)
  have hbp := h.inv.block htk
  refine ⟨h.inv.put htk hk, h.size, h.quota, fun q m => by rw [put_tk h.inv htk hk]; exact h.tk q m, h.nd, ?_, ?_⟩
  · intro x hx i hi
    have hxk := (h.tk x.own x.n).2 (.inr ⟨x, hx, rfl, rfl⟩)
    have hbx := h.inv.block hxk
    have hnd := h.nd
    rw [List.nodup_cons] at hnd
    have hne : x.own ≠ p := fun e => hnd.1 (e ▸ List.mem_map.2 ⟨x, hx, rfl⟩)
    have hd := h.inv.dis x.own (cls x.n) p (cls n) (.inl ⟨x.n, hxk, rfl⟩) (.inl ⟨n, htk, rfl⟩) (.inl hne)
    show (A.places.set (p + 1 + k) _)[x.own + 1 + i]? = _
    rw [List.getElem?_set_ne (by omega)]
    exact h.word x hx i hi
  · intro j hj hjn
    show (A.places.set (p + 1 + k) _)[p + 1 + j]? = _
    by_cases e : j = k
    · subst e
      rw [List.getElem?_set_self (by omega)]
    · rw [List.getElem?_set_ne (by omega)]
      exact h.part j (by omega) hjn

theorem Ap1.blk {A : Ar} {bs : List Bk} {p n mk k i : Nat} (h : Ap1 A bs p n mk k) (hi : i < n) : A.block p n ∧ A.taken.length ≤ 1048576 ∧ A.places.length ≤ 1048576 ∧ p + 1 + i < A.places.length := by
  have htk := (h.tk p n).2 (.inl ⟨rfl, rfl⟩)
  have hb := h.inv.block htk
  have h1 := h.inv.len
  have h2 := h.inv.top
  have h3 := h.inv.size
  exact ⟨hb.1, by omega, by omega, by omega⟩

theorem Ap1.done {A : Ar} {bs : List Bk} {p n mk : Nat} (h : Ap1 A bs p n mk n) : Ap A (bs ++ [⟨p, n, mk⟩]) := by
  have hnd := h.nd
  rw [List.nodup_cons] at hnd
  refine ⟨h.inv, h.size, h.quota, fun q m => ?_, ?_, ?_⟩
  · rw [h.tk]
    constructor
    · rintro (⟨rfl, rfl⟩ | ⟨x, hx, e⟩)
      · exact ⟨⟨q, m, mk⟩, by simp, rfl, rfl⟩
      · exact ⟨x, by simp [hx], e⟩
    · rintro ⟨x, hx, e1, e2⟩
      rcases List.mem_append.1 hx with hx | hx
      · exact .inr ⟨x, hx, e1, e2⟩
      · simp at hx; subst hx; exact .inl ⟨e1.symm, e2.symm⟩
  · rw [List.map_append, List.nodup_append]
    refine ⟨hnd.2, by simp, ?_⟩
    intro a ha b hb e
    simp at hb
    subst hb
    subst e
    exact hnd.1 ha
  · intro x hx k hk
    rcases List.mem_append.1 hx with hx | hx
    · exact h.word x hx k hk
    · simp at hx; subst hx; exact h.part k hk hk

theorem Ap.free {A : Ar} {bs : List Bk} (h : Ap A bs) (j : Nat) (x : Bk) (hj : bs[j]? = some x) : A.tk x.own x.n ∧ Ap (A.freed x.own (cls x.n)) (bs.eraseIdx j) ∧ (A.freed x.own (cls x.n)).holds ((x.own : Int) + 1) = false := by
  have hlt := (List.getElem?_eq_some_iff.1 hj).1
  have hx := List.mem_of_getElem? hj
  have htk := (h.tk x.own x.n).2 ⟨x, hx, rfl, rfl⟩
  have hsub : ∀ y ∈ bs.eraseIdx j, y ∈ bs := fun y hy => List.mem_of_mem_eraseIdx hy
  have hne : ∀ y ∈ bs.eraseIdx j, y.own ≠ x.own := by
    intro y hy e
    rw [List.mem_eraseIdx_iff_getElem?] at hy
    obtain ⟨i, hi, hy2⟩ := hy
    have hilt := (List.getElem?_eq_some_iff.1 hy2).1
    have := h.nd
    rw [List.nodup_iff_pairwise_ne, List.pairwise_iff_getElem] at this
    have e1 : (bs.map Bk.own)[i]'(by simpa using hilt) = (bs.map Bk.own)[j]'(by simpa using hlt) := by
      simp only [List.getElem_map]
      rw [(List.getElem?_eq_some_iff.1 hy2).2, (List.getElem?_eq_some_iff.1 hj).2]
      exact e
    rcases Nat.lt_trichotomy i j with h1 | h1 | h1
    · exact this i j _ _ h1 e1
    · exact hi h1
    · exact this j i _ _ h1 e1.symm
  have hor : ∀ y ∈ bs, y.own ≠ x.own → y ∈ bs.eraseIdx j := by
    intro y hy hne2
    obtain ⟨i, hi⟩ := List.getElem?_of_mem hy
    rw [List.mem_eraseIdx_iff_getElem?]
    refine ⟨i, fun e => ?_, hi⟩
    subst e
    rw [hj] at hi
    injection hi with hi
    exact hne2 (congrArg Bk.own hi.symm)
  refine ⟨htk, ⟨(h.inv.freed htk).1, h.size, h.quota, fun q m => ?_, ?_, fun y hy k hk => h.word y (hsub y hy) k hk⟩, ?_⟩
  · rw [freed_tk htk, h.tk]
    constructor
    · rintro ⟨e, y, hy, rfl, rfl⟩
      exact ⟨y, hor y hy e, rfl, rfl⟩
    · rintro ⟨y, hy, rfl, rfl⟩
      exact ⟨hne y hy, y, hsub y hy, rfl, rfl⟩
  · have := h.nd
    rw [List.eraseIdx_eq_take_drop_succ]
    rw [← List.take_append_drop j bs, List.drop_eq_getElem_cons hlt, List.map_append, List.nodup_append] at this
    rw [List.map_append, List.nodup_append]
    obtain ⟨a, b, c⟩ := this
    rw [List.map_cons, List.nodup_cons] at b
    exact ⟨a, b.2, fun p hp q hq => c p hp q (by rw [List.map_cons]; exact List.mem_cons_of_mem _ hq)⟩
  · unfold Ar.holds
    split
    · rw [show ((x.own : Int) + 1 - 1).toNat = x.own by omega, List.getD_eq_getElem?_getD]
      show ((A.taken.set x.own false)[x.own]?).getD false = false
      rw [List.getElem?_set_self (List.getElem?_eq_some_iff.1 htk.1).1]
      rfl
    · rfl

theorem Ap.get {A : Ar} {bs : List Bk} (h : Ap A bs) (i : Nat) (x : Bk) (hx : bs[i]? = some x) : A.block x.own x.n ∧ A.taken.length ≤ 1048576 ∧ A.places.length ≤ 1048576 ∧ ∀ k, k < x.n → A.places[x.own + 1 + k]? = some (((x.mark + k : Nat)) : Int) := by
  have hm := List.mem_of_getElem? hx
  have hb := h.inv.block ((h.tk x.own x.n).2 ⟨x, hm, rfl, rfl⟩)
  have h1 := h.inv.len
  have h2 := h.inv.top
  have h3 := h.inv.size
  exact ⟨hb.1, by omega, by omega, h.word x hm⟩

theorem Ap.len {A : Ar} {bs : List Bk} (h : Ap A bs) : bs.length ≤ 4000 ∧ A.names.length = bs.length := by
  have h1 := names_len h.inv (bs.map Bk.own) h.nd (fun q => by
    constructor
    · rintro ⟨m, hm⟩
      obtain ⟨x, hx, e, _⟩ := (h.tk q m).1 hm
      exact List.mem_map.2 ⟨x, hx, e⟩
    · intro hq
      obtain ⟨x, hx, e⟩ := List.mem_map.1 hq
      exact ⟨x.n, (h.tk q x.n).2 ⟨x, hx, e, rfl⟩⟩)
  have h2 := namesTo_len A.taken A.taken.length
  have h3 := h.inv.len
  have h4 := h.inv.top
  have h5 := h.size
  have h6 : A.names.length ≤ A.taken.length := h2
  simp at h1
  omega
end Go.Proofs.Ythilajdjkglkkaa
