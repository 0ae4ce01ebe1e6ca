/- A table of a net in memory: its places, its rows. -/
import Derived.Test.YtmfhmnlgffgcgaaLkMap
import Derived.Test.YtmfhmnlgffgcgaaWhRow
namespace Go.Proofs.Ytmfhmnlgffgcgaa
open Go.RowKit Go.Maps
set_option linter.unusedVariables false

section
variable {w w' : World} {l : List Int}
theorem lk_heap_set {w : World} {b i : Nat} {cs : Array Value} {T : TypeId} {fr : Nat × Nat} (hb : w.heap[b]? = some (.cells cs T fr)) (v : Value) :
    (w.setCell ⟨b, i, none⟩ v).heap[b]? = some (.cells (cs.setIfInBounds i v) T fr) := by
  simp [World.setCell, Array.getElem?_modify, hb]
/-- one number of a row is written -/
theorem lk_row_set {g cap : Nat} (h : Lw w (.slice (some ⟨g, 0, none⟩) l.length cap) l) (k : Nat) (x : Int) :
    Lw (w.setCell ⟨g, k, none⟩ (.int .i64 x)) (.slice (some ⟨g, 0, none⟩) l.length cap) (l.set k x) ∧ Kp (fun q => q = g) w (w.setCell ⟨g, k, none⟩ (.int .i64 x)) := by
  rcases h.2 with ⟨e, _⟩ | ⟨g', cap', cur, e, hb, hg, h2, h3, h4, h5⟩
  · cases e
  · injection e with e1 _ e2
    injection e1 with e1
    injection e1 with e1
    subst e1 e2
    refine ⟨?_, (Kp.refl _ w).setCell _ _ (.inl rfl)⟩
    unfold Lw
    rw [List.length_set]
    refine ⟨by rw [lv_len, List.length_set], .inr ⟨g, cap, _, rfl, hb, lk_heap_set hg _, h2, by simpa using h3, h4, ?_⟩⟩
    rw [Array.toList_setIfInBounds, List.take_set, h5]
    unfold lv
    rw [List.map_set]
theorem lk_row_fz {g cap n : Nat} (h : Lw w (.slice (some ⟨g, 0, none⟩) n cap) l) (o : Nat) : w.frozen? ⟨g, o, none⟩ = false := by
  rcases h.2 with ⟨e, _⟩ | ⟨g', cap', cur, e, hb, hg, _⟩
  · cases e
  · injection e with e1
    injection e1 with e1
    injection e1 with e1
    subst e1
    simp [World.frozen?, hg]
/-- the first so many of a row -/
theorem lk_row_cut {g cap n k : Nat} (h : Lw w (.slice (some ⟨g, 0, none⟩) n cap) l) (hk : k ≤ l.length) : Lw w (.slice (some ⟨g, 0, none⟩) k cap) (l.take k) := by
  rcases h.2 with ⟨e, _⟩ | ⟨g', cap', cur, e, hb, hg, h2, h3, h4, h5⟩
  · cases e
  · injection e with e1 e3 e2
    injection e1 with e1
    injection e1 with e1
    subst e1 e2
    have hl : (l.take k).length = k := by simp; omega
    refine ⟨by rw [lv_len], .inr ⟨g, cap, cur, by rw [hl], hb, hg, by omega, h3, h4, ?_⟩⟩
    rw [hl]
    unfold lv at h5 ⊢
    rw [List.map_take, ← h5, List.take_take, Nat.min_eq_left hk]
end

/-- a table in the maps m and l; G: the blocks that are its own -/
structure TbIn (w : World) (G : Nat → Prop) (m l : Nat) (S : List (Int × Int)) (f : Int → List Int) (ix : Int → Int → Nat) (vs : Int → Value) (ks : List Int) : Prop where
  pm : Pm w m S ix
  lm : Lm w l ks vs
  gm : G m
  gl : G l
  ne : m ≠ l
  row : ∀ a, Lw w (vs a) (f a)
  gr : ∀ a g, (vs a).ownBlock = some g → G g
  inj : ∀ a c g, (vs a).ownBlock = some g → (vs c).ownBlock = some g → a = c
  per : ∀ a, (f a).Perm (colOf S a)
  at_ : ∀ p ∈ S, (f p.1)[ix p.1 p.2]? = some p.2
  keys : ∀ a, a ∈ ks ↔ f a ≠ []
/-- a table: none yet, or in two maps -/
def Tbl (w : World) (G : Nat → Prop) (mo lo : Value) (S : List (Int × Int)) : Prop :=
  (mo = .map none ∧ lo = .map none ∧ S = []) ∨ ∃ m l f ix vs ks, mo = .map (some m) ∧ lo = .map (some l) ∧ TbIn w G m l S f ix vs ks
def fSet (f : Int → List Int) (a : Int) (l : List Int) : Int → List Int := fun c => if c = a then l else f c

section
variable {F G G' : Nat → Prop} {w w' : World} {m l : Nat} {S S' : List (Int × Int)} {f : Int → List Int} {ix ix' : Int → Int → Nat} {vs : Int → Value} {ks ks' : List Int} {mo lo : Value} {a x y : Int}
theorem TbIn.kp (h : TbIn w G m l S f ix vs ks) (hk : Kp F w w') (hF : ∀ q, G q → ¬ F q) : TbIn w' G m l S f ix vs ks :=
  ⟨h.pm.kp hk (hF _ h.gm), h.lm.kp hk (hF _ h.gl), h.gm, h.gl, h.ne, fun a => (h.row a).kp hk (fun g hg => hF _ (h.gr a g hg)), h.gr, h.inj, h.per, h.at_, h.keys⟩
theorem TbIn.re (h : TbIn w G m l S f ix vs ks) (hG : ∀ q, q < w.heap.size → G q → G' q) : TbIn w G' m l S f ix vs ks :=
  ⟨h.pm, h.lm, hG _ (map_lt h.pm.block) h.gm, hG _ (map_lt h.lm.block) h.gl, h.ne, h.row, fun a g hg => hG _ ((h.row a).lt g hg) (h.gr a g hg), h.inj, h.per, h.at_, h.keys⟩
theorem TbIn.perm (h : TbIn w G m l S f ix vs ks) (hp : S.Perm S') : TbIn w G m l S' f ix vs ks := by
  obtain ⟨h1, h2, D, h3, h4, h5, h6⟩ := h.pm
  exact ⟨⟨fun p hq => h1 p (hp.mem_iff.2 hq), (hp.nodup_iff).1 h2, D, by rw [← hp.length_eq]; exact h3, by rw [← hp.length_eq]; exact h4, fun a x ha hx => by rw [h5 a x ha hx]; simp only [hp.mem_iff], fun p hq => h6 p (hp.mem_iff.2 hq)⟩,
    h.lm, h.gm, h.gl, h.ne, h.row, h.gr, h.inj, fun a => (h.per a).trans ((hp.filter _).map _), fun p hq => h.at_ p (hp.mem_iff.2 hq), h.keys⟩
theorem TbIn.vne (h : TbIn w G m l S f ix vs ks) (a : Int) : ∀ g, (vs a).ownBlock = some g → g ≠ m ∧ g ≠ l := by
  intro g hg
  rcases (h.row a).2 with ⟨e, _⟩ | ⟨g', cap, cur, e, _, hgg, _⟩
  · rw [e] at hg; cases hg
  · rw [e] at hg
    have e2 : g' = g := by injection hg
    subst e2
    refine ⟨fun e => ?_, fun e => ?_⟩
    · obtain ⟨es, c, hm⟩ := h.pm.block
      rw [← e, hgg] at hm
      cases hm
    · obtain ⟨es, c, hm⟩ := h.lm.block
      rw [← e, hgg] at hm
      cases hm
theorem TbIn.mem (h : TbIn w G m l S f ix vs ks) : x ∈ f a ↔ (a, x) ∈ S := (h.per a).mem_iff.trans mem_colOf
theorem TbIn.nodup (h : TbIn w G m l S f ix vs ks) (a : Int) : (f a).Nodup := (h.per a).nodup_iff.2 (colOf_nodup h.pm.2.1 a)
theorem TbIn.len (h : TbIn w G m l S f ix vs ks) (a : Int) : (f a).length ≤ S.length := by
  rw [(h.per a).length_eq]
  unfold colOf
  rw [List.length_map]
  exact List.length_filter_le _ _
theorem Tbl.kp (h : Tbl w G mo lo S) (hk : Kp F w w') (hF : ∀ q, G q → ¬ F q) : Tbl w' G mo lo S := by
  rcases h with h | ⟨m, l, f, ix, vs, ks, h1, h2, h3⟩
  · exact .inl h
  · exact .inr ⟨m, l, f, ix, vs, ks, h1, h2, h3.kp hk hF⟩
theorem Tbl.same (h : Tbl w G mo lo S) (hk : Kp (fun _ => False) w w') : Tbl w' G mo lo S := h.kp hk (fun _ _ e => e)
theorem Tbl.re (h : Tbl w G mo lo S) (hG : ∀ q, q < w.heap.size → G q → G' q) : Tbl w G' mo lo S := by
  rcases h with h | ⟨m, l, f, ix, vs, ks, h1, h2, h3⟩
  · exact .inl h
  · exact .inr ⟨m, l, f, ix, vs, ks, h1, h2, h3.re hG⟩
theorem Tbl.perm (h : Tbl w G mo lo S) (hp : S.Perm S') : Tbl w G mo lo S' := by
  rcases h with ⟨h1, h2, h3⟩ | ⟨m, l, f, ix, vs, ks, h1, h2, h3⟩
  · subst h3
    exact .inl ⟨h1, h2, hp.symm.eq_nil⟩
  · exact .inr ⟨m, l, f, ix, vs, ks, h1, h2, h3.perm hp⟩
theorem Tbl.nodup (h : Tbl w G mo lo S) : S.Nodup := by
  rcases h with ⟨h1, h2, h3⟩ | ⟨m, l, f, ix, vs, ks, h1, h2, h3⟩
  · rw [h3]; simp
  · exact h3.pm.2.1
theorem Tbl.i64 (h : Tbl w G mo lo S) : ∀ p ∈ S, I64 p.1 ∧ I64 p.2 := by
  rcases h with ⟨h1, h2, h3⟩ | ⟨m, l, f, ix, vs, ks, h1, h2, h3⟩
  · rw [h3]; simp
  · exact h3.pm.1
/-- both maps and one row are turned -/
theorem TbIn.turn (h : TbIn w G m l S f ix vs ks) {v' : Value} {l' : List Int} (hk : Kp F w w') (hF : ∀ c g, c ≠ a → (vs c).ownBlock = some g → ¬ F g) (pm' : Pm w' m S' ix') (lm' : Lm w' l ks' (vsSet vs a v')) (row' : Lw w' v' l')
    (hv : ∀ g, v'.ownBlock = some g → (vs a).ownBlock = some g ∨ w.heap.size ≤ g) (hper : ∀ c, (fSet f a l' c).Perm (colOf S' c)) (hat : ∀ p ∈ S', (fSet f a l' p.1)[ix' p.1 p.2]? = some p.2) (hkeys : ∀ c, c ∈ ks' ↔ fSet f a l' c ≠ []) :
    TbIn w' (fun q => G q ∨ w.heap.size ≤ q) m l S' (fSet f a l') ix' (vsSet vs a v') ks' := by
  have hlt : ∀ c g, (vs c).ownBlock = some g → g < w.heap.size := fun c g hg => (h.row c).lt g hg
  refine ⟨pm', lm', .inl h.gm, .inl h.gl, h.ne, fun c => ?_, fun c g hg => ?_, fun c d g hc hd => ?_, hper, hat, hkeys⟩
  · unfold fSet vsSet
    by_cases e : c = a
    · rw [if_pos e, if_pos e]; exact row'
    · rw [if_neg e, if_neg e]
      exact (h.row c).kp hk (fun g hg => hF c g e hg)
  · unfold vsSet at hg
    split at hg
    · rcases hv g hg with e | e
      · exact .inl (h.gr a g e)
      · exact .inr e
    · exact .inl (h.gr c g hg)
  · unfold vsSet at hc hd
    by_cases e1 : c = a
    · by_cases e2 : d = a
      · rw [e1, e2]
      · rw [if_pos e1] at hc
        rw [if_neg e2] at hd
        rcases hv g hc with e | e
        · exact absurd (h.inj a d g e hd).symm e2
        · have := hlt d g hd; omega
    · by_cases e2 : d = a
      · rw [if_neg e1] at hc
        rw [if_pos e2] at hd
        rcases hv g hd with e | e
        · exact absurd (h.inj c a g hc e) e1
        · have := hlt c g hc; omega
      · rw [if_neg e1] at hc
        rw [if_neg e2] at hd
        exact h.inj c d g hc hd
theorem Lw.rwForm {v : Value} {L : List Int} (h : Lw w v L) : RwForm v := by
  rcases h.2 with ⟨e, _⟩ | ⟨g, cap, cur, e, _⟩
  · exact .inl e
  · exact .inr ⟨_, _, _, e⟩
/-- one more -/
theorem TbIn.more (h : TbIn w G m l S f ix vs ks) (hno : (a, x) ∉ S) {v' : Value} (hk : Kp (fun q => q = m ∨ q = l ∨ (vs a).ownBlock = some q) w w') (pm' : Pm w' m (S ++ [(a, x)]) (ixSet ix a x (f a).length)) (lm' : Lm w' l (ksPut ks a) (vsSet vs a v')) (row' : Lw w' v' (f a ++ [x]))
    (hv : ∀ g, v'.ownBlock = some g → (vs a).ownBlock = some g ∨ w.heap.size ≤ g) :
    TbIn w' (fun q => G q ∨ w.heap.size ≤ q) m l (S ++ [(a, x)]) (fSet f a (f a ++ [x])) (ixSet ix a x (f a).length) (vsSet vs a v') (ksPut ks a) := by
  refine h.turn hk (fun c g e hg hq => ?_) pm' lm' row' hv (fun c => ?_) (fun p hp => ?_) (fun c => ?_)
  · rcases hq with hq | hq | hq
    · exact (h.vne c g hg).1 hq
    · exact (h.vne c g hg).2 hq
    · exact e (h.inj c a g hg hq)
  · unfold fSet
    rw [colOf_app]
    by_cases e : c = a
    · rw [if_pos e, e, colOf_one]
      exact (h.per a).append_right _
    · rw [if_neg e, colOf_other e, List.append_nil]
      exact h.per c
  · unfold fSet ixSet
    rcases List.mem_append.1 hp with hp | hp
    · have hne : p ≠ (a, x) := fun e => hno (e ▸ hp)
      rw [if_neg (c := p.1 = a ∧ p.2 = x) (fun e => hne (Prod.ext e.1 e.2))]
      by_cases e : p.1 = a
      · rw [if_pos e]
        have h1 := h.at_ p hp
        rw [e] at h1 ⊢
        exact (List.getElem?_append_left (List.getElem?_eq_some_iff.1 h1).1).trans h1
      · rw [if_neg e]
        exact h.at_ p hp
    · simp at hp
      subst hp
      rw [if_pos rfl, if_pos ⟨rfl, rfl⟩]
      simp
  · rw [mem_ksPut, h.keys c]
    unfold fSet
    by_cases e : c = a
    · rw [if_pos e]
      simp [e]
    · rw [if_neg e]
      exact ⟨fun h => h.elim id (fun h => absurd h e), .inl⟩
/-- one fewer: the last one of the row goes where it stood -/
theorem TbIn.less (h : TbIn w G m l S f ix vs ks) (hm : (a, x) ∈ S) (hy : (f a)[(f a).length - 1]? = some y) {v' : Value} {b : Nat} (hb : ¬ G b) (hk : Kp (fun q => q = m ∨ q = l ∨ (vs a).ownBlock = some q ∨ q = b) w w') (pm' : Pm w' m (butPair S (a, x)) (ixSet ix a y (ix a x)))
    (hks : ∀ c, c ∈ ks' ↔ (c ∈ ks ∧ c ≠ a) ∨ (c = a ∧ (f a).length ≠ 1)) (lm' : Lm w' l ks' (vsSet vs a v')) (row' : Lw w' v' (cutAt (f a) (ix a x) y))
    (hv : ∀ g, v'.ownBlock = some g → (vs a).ownBlock = some g ∨ w.heap.size ≤ g) :
    TbIn w' (fun q => G q ∨ w.heap.size ≤ q) m l (butPair S (a, x)) (fSet f a (cutAt (f a) (ix a x) y)) (ixSet ix a y (ix a x)) (vsSet vs a v') ks' := by
  have hi : (f a)[ix a x]? = some x := h.at_ _ hm
  have hlen : (cutAt (f a) (ix a x) y).length = (f a).length - 1 := by unfold cutAt; simp
  have hpos := (List.getElem?_eq_some_iff.1 hi).1
  refine h.turn hk (fun c g e hg hq => ?_) pm' lm' row' hv (fun c => ?_) (fun p hp => ?_) (fun c => ?_)
  · rcases hq with hq | hq | hq | hq
    · exact (h.vne c g hg).1 hq
    · exact (h.vne c g hg).2 hq
    · exact e (h.inj c a g hg hq)
    · exact hb (hq ▸ h.gr c g hg)
  · unfold fSet
    by_cases e : c = a
    · rw [if_pos e, e, colOf_but]
      exact (cutAt_perm (h.nodup a) hi hy).trans ((h.per a).filter _)
    · rw [if_neg e, colOf_but_other e]
      exact h.per c
  · obtain ⟨hp1, hp2⟩ := mem_butPair.1 hp
    unfold fSet ixSet
    by_cases e : p.1 = a
    · rw [if_pos e]
      have h1 := h.at_ p hp1
      have hz : p.2 ≠ x := fun e2 => hp2 (Prod.ext e e2)
      rw [e] at h1 ⊢
      have h2 := cutAt_get (h.nodup a) hi hy h1 hz
      by_cases e3 : p.2 = y
      · rw [if_pos e3] at h2
        rw [if_pos ⟨rfl, e3⟩]
        exact h2
      · rw [if_neg e3] at h2
        rw [if_neg (fun e4 => e3 e4.2)]
        exact h2
    · rw [if_neg e, if_neg (fun e2 => e e2.1)]
      exact h.at_ p hp1
  · rw [hks, h.keys c]
    unfold fSet
    by_cases e : c = a
    · rw [if_pos e]
      constructor
      · rintro (h1 | h1)
        · exact absurd e h1.2
        · intro h2
          have := congrArg List.length h2
          rw [hlen] at this
          simp at this
          omega
      · intro h1
        refine .inr ⟨e, fun h2 => h1 (List.eq_nil_of_length_eq_zero ?_)⟩
        rw [hlen, h2]
    · rw [if_neg e]
      exact ⟨fun h => h.elim (fun h => h.1) (fun h => absurd h.1 e), fun h => .inl ⟨h, e⟩⟩
/-- a table without rows -/
theorem TbIn.empty (h : TbIn w G m l S f ix vs []) : S = [] := by
  cases S with
  | nil => rfl
  | cons p S =>
    have h1 : p.2 ∈ f p.1 := h.mem.2 (by simp)
    have h2 : f p.1 ≠ [] := fun e => by rw [e] at h1; cases h1
    exact absurd ((h.keys p.1).2 h2) (by simp)
theorem TbIn.new (w : World) (ix : Int → Int → Nat) : TbIn ((w.alloc (.map #[] 0)).alloc (.map #[] 0)) (fun q => w.heap.size ≤ q) w.heap.size (w.heap.size + 1) [] (fun _ => []) ix (fun _ => .slice none 0 0) [] := by
  refine ⟨(Pm.new w ix).kp ((Kp.refl (fun _ => False) _).alloc _) (fun e => e), ?_, Nat.le_refl _, Nat.le_succ _, by omega, fun a => Lw.nil _, fun a g hg => (by cases hg), fun a c g hg => (by cases hg), fun a => (by simp [colOf]), fun p hp => (by cases hp), fun a => (by simp)⟩
  have := Lm.new (w.alloc (.map #[] 0))
  rw [show (w.alloc (.map #[] 0)).heap.size = w.heap.size + 1 by simp] at this
  exact this
end

/-- a net's own eight cells -/
def HeadAt (w : World) (b : Nat) (h : Nat → Value) : Prop := w.heap[b]? = some (.cells #[h 0, h 1, h 2, h 3, h 4, h 5, h 6, h 7] 31 (0, 0))
section
variable {F : Nat → Prop} {w w' : World} {b off : Nat} {h : Nat → Value}
theorem HeadAt.lt (H : HeadAt w b h) : b < w.heap.size := (Array.getElem?_eq_some_iff.1 H).1
theorem HeadAt.kp (H : HeadAt w b h) (hk : Kp F w w') (hb : ¬ F b) : HeadAt w' b h := (hk.block b H.lt hb).trans H
theorem HeadAt.same (H : HeadAt w b h) (hk : Kp (fun _ => False) w w') : HeadAt w' b h := H.kp hk id
theorem HeadAt.cell (H : HeadAt w b h) (ho : off < 8) : w.cell? ⟨b, off, none⟩ = some (h off) := by
  rw [cell_of_row w b off _ _ _ H]
  rcases off with _ | _ | _ | _ | _ | _ | _ | _ | off <;> first | rfl | omega
theorem HeadAt.fz (H : HeadAt w b h) (o : Nat) : w.frozen? ⟨b, o, none⟩ = false := by unfold HeadAt at H; simp [World.frozen?, H]
theorem HeadAt.set (H : HeadAt w b h) (ho : off < 8) (v : Value) : HeadAt (w.setCell ⟨b, off, none⟩ v) b (upd h off v) := by
  unfold HeadAt at *
  rw [lk_heap_set H v]
  rcases off with _ | _ | _ | _ | _ | _ | _ | _ | off <;> first | rfl | omega
end

theorem Try.lkRow0 (w : World) : (binOp .eql 32 (.slice none 0 0) (.slice none 0 0)).run Try.prog w = .ok (.bool true) w := by kernel_rfl
theorem Try.lkRow1 (w : World) (a : Addr) (n c : Nat) : (binOp .eql 32 (.slice (some a) n c) (.slice none 0 0)).run Try.prog w = .ok (.bool false) w := by kernel_rfl
theorem Try.lkMap0 (w : World) : (binOp .eql 24 (.map none) (.map none)).run Try.prog w = .ok (.bool true) w := by kernel_rfl
theorem Try.lkMap1 (w : World) (m : Nat) : (binOp .eql 24 (.map (some m)) (.map none)).run Try.prog w = .ok (.bool false) w := by kernel_rfl
section
variable {w : World} {v : Value} {l : List Int}
/-- a copy of a row, in a new block -/
def FreshRow (w : World) (l : List Int) (e : Ending) (w' : World) : Prop := ∃ u, e = .returned u ∧ Lw w' u l ∧ (∀ g, u.ownBlock = some g → w.heap.size ≤ g) ∧ Kp (fun _ => False) w w'
set_option maxRecDepth 100000 in
set_option maxHeartbeats 1000000 in
theorem clone_any (hv : Lw w v l) (hl : l.length ≤ 17592186044416) : Calls Try.prog 46 #[v] w (FreshRow w l) := by
  rcases hv.2 with ⟨e, h0⟩ | ⟨g, cap, cur, e, -, -, -, -, -, -⟩
  · have hn := List.eq_nil_of_length_eq_zero h0
    subst hn e
    have HF : Hid (FreshRow w [] (.returned (.slice none 0 0)) w) := Lib.hid ⟨_, rfl, Lw.nil w, fun g hg => (by cases hg), Kp.refl _ w⟩
    clear hv h0
    have hq0 := Try.lkRow0
    go_enter Try.func46, Try.ntmps46
    go_wp2_with fail
    go_ret
    exact HF.out
  · have hk0 : Kp (fun _ => False) w (w.alloc (.cells #[] 2)) := (Kp.refl _ w).alloc _
    have ho : Lw (w.alloc (.cells #[] 2)) (.slice (some ⟨w.heap.size, 0, none⟩) ([] : List Int).length 0) [] := ⟨rfl, .inr ⟨w.heap.size, 0, #[], rfl, Nat.zero_le _, heap_alloc_new w _, Nat.le_refl _, Nat.le_refl _, by unfold maxLen; omega, rfl⟩⟩
    obtain ⟨v', w2, hr, ho2, hk2, hg2⟩ := longs_append ho (hv.rd.same hk0) (by simpa using hl)
    have HF : Hid (FreshRow w l (.returned v') w2) := Lib.hid ⟨_, rfl, ho2, fun g' hg' => by
      rcases hg2 g' hg' with e2 | e2
      · have : w.heap.size = g' := by injection e2
        omega
      · simp at e2; omega, hk0.trans (hk2.mono fun q hq e2 => .inr (by
        have : w.heap.size = q := by injection e2
        exact ⟨by omega, hq⟩))⟩
    have HR := Lib.hid hr
    subst e
    clear hr ho2 hk2 hg2 ho hk0 hv
    have hq1 := Try.lkRow1
    go_enter Try.func46, Try.ntmps46
    go_wp2_with (at_builtin; refine wpList_run rfl _ _ 32 rfl (.slice (some ⟨w.heap.size, 0, none⟩) 0 0) (.slice (some ⟨g, 0, none⟩) l.length cap) rfl rfl _ w2 HR.out ?_)
    go_ret
    exact HF.out
theorem srt_zero (l : List Int) : l.take 0 ++ ((l.drop 0).mergeSort fun x y => decide (x ≤ y)) = srt l := rfl
/-- sorted where it lies -/
theorem sort_any (hv : Lw w v l) (hl : l.length ≤ 17592186044416) : Calls Try.prog 47 #[v] w (fun e w' => e = .returned (.tuple #[]) ∧ Lw w' v (srt l) ∧ Kp (fun q => v.ownBlock = some q) w w') := by
  by_cases h0 : l = []
  · subst h0
    obtain ⟨po, cap, rfl⟩ := hv.form
    exact (sort_none hv po cap).mono fun e w' ⟨h1, h2, h3⟩ => ⟨h1, h2, h3⟩
  · rcases hv.2 with ⟨e, h1⟩ | ⟨g, cap, cur, e, -, -, -, -, -, -⟩
    · exact absurd (List.eq_nil_of_length_eq_zero h1) h0
    · subst e
      exact (sort_some (k := 0) hv (List.length_pos_iff.2 h0) hl cap).mono fun e w' ⟨h1, h2, h3⟩ => ⟨h1, h2, h3⟩
end
end Go.Proofs.Ytmfhmnlgffgcgaa
