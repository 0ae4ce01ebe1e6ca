/- One that is linked to many: a net beside a row of flags. -/
import Derived.Test.YtmfhmnlgffgcgaaLkRefs
namespace Go.Proofs.Ytmfhmnlgffgcgaa
open Go.RowKit Go.Maps
set_option linter.unusedVariables false

/-- a row of flags in block g -/
def Bl (w : World) (g : Nat) (B : List Bool) : Prop := w.heap[g]? = some (.cells (B.map Value.bool).toArray 4 (0, 0))
section
variable {F : Nat → Prop} {w w' : World} {g k : Nat} {B : List Bool} {x : Bool}
theorem Bl.lt (h : Bl w g B) : g < w.heap.size := (Array.getElem?_eq_some_iff.1 h).1
theorem Bl.kp (h : Bl w g B) (hk : Kp F w w') (hg : ¬ F g) : Bl w' g B := (hk.block g h.lt hg).trans h
theorem Bl.get (h : Bl w g B) (hx : B[k]? = some x) : w.cell? ⟨g, k, none⟩ = some (.bool x) := by
  rw [cell_of_row w g k _ _ _ h]
  simp [hx]
theorem Bl.fz (h : Bl w g B) (o : Nat) : w.frozen? ⟨g, o, none⟩ = false := by unfold Bl at h; simp [World.frozen?, h]
theorem Bl.set (h : Bl w g B) (k : Nat) (x : Bool) : Bl (w.setCell ⟨g, k, none⟩ (.bool x)) g (B.set k x) := by
  unfold Bl at *
  rw [lk_heap_set h, List.map_set, List.setIfInBounds_toArray]
theorem Bl.made (w : World) (n : Nat) : Bl (w.alloc (.cells (madeCells #[.bool false] n) 4)) w.heap.size (List.replicate n false) := by
  unfold Bl
  rw [heap_alloc_new]
  congr 2
  apply Array.ext'
  rw [toList_madeCells_one]
  simp
end
/-- whom the seventh is linked to, below k -/
def wl (ls : List (Int × Int)) (k : Nat) : List Int := ((List.range k).filter fun j => decide (lk 7 (j : Nat) ∈ ls)).map fun j => ((j : Nat) : Int)
/-- all links are the seventh's, with one below fifty; the flags tell with whom -/
structure St (w0 w : World) (b g : Nat) (ls : List (Int × Int)) (B : List Bool) : Prop where
  ns : NS w0 (fun q => q = g) w b ls [] 0
  bl : Bl w g B
  new : w0.heap.size ≤ g
  on : ∀ k : Nat, k < 50 → B[k]? = some (decide (lk 7 (k : Nat) ∈ ls))
  all : ∀ p ∈ ls, ∃ k : Nat, k < 50 ∧ p = lk 7 (k : Nat)
section
variable {w0 w w' : World} {b g k : Nat} {ls : List (Int × Int)} {B : List Bool} {v : Value} {e : Ending}
theorem nodup_len_le' {α : Type} [DecidableEq α] : ∀ {ks M : List α}, ks.Nodup → (∀ c ∈ ks, c ∈ M) → ks.length ≤ M.length
  | [], M, _, _ => Nat.zero_le _
  | k :: ks, M, hn, hm => by
    rw [List.nodup_cons] at hn
    have h1 := hm k (by simp)
    have h2 := nodup_len_le' (M := M.erase k) hn.2 (fun c hc => (List.mem_erase_of_ne (fun e => hn.1 (by rw [← e]; exact hc))).2 (hm c (by simp [hc])))
    rw [List.length_erase_of_mem h1] at h2
    have h3 := List.length_pos_of_mem h1
    rw [List.length_cons]
    omega
theorem St.few (h : St w0 w b g ls B) : ls.length ≤ 50 := by
  have := nodup_len_le' (M := (List.range 50).map fun k => lk 7 ((k : Nat) : Int)) h.ns.ok.1 fun p hp => by
    obtain ⟨k, hk, e⟩ := h.all p hp
    exact List.mem_map.2 ⟨k, List.mem_range.2 hk, e.symm⟩
  simpa using this
theorem St.same (h : St w0 w b g ls B) (hk : Kp (fun _ => False) w w') : St w0 w' b g ls B := ⟨h.ns.same hk, h.bl.kp hk (fun e => e), h.new, h.on, h.all⟩
theorem St.linked (h : St w0 w b g ls B) (hk : k < 50) (h7 : k ≠ 7) (ht : NsTo w0 (fun q => q = g) w b (addLk ls 7 (k : Nat)) [] 0 v e w') : Bl w' g B ∧ St w0 (w'.setCell ⟨g, k, none⟩ (.bool true)) b g (addLk ls 7 (k : Nat)) (B.set k true) := by
  obtain ⟨-, h1, h2⟩ := ht
  have hb : Bl w' g B := h.bl.kp h2 (fun e => e rfl)
  have hmem : ∀ p, p ∈ addLk ls 7 (k : Nat) ↔ p ∈ ls ∨ p = lk 7 (k : Nat) := by
    intro p
    unfold addLk
    by_cases e : (7 : Int) = (k : Nat) ∨ lk 7 (k : Nat) ∈ ls
    · rw [if_pos e]
      have e2 : lk 7 (k : Nat) ∈ ls := e.elim (fun e => absurd e (by omega)) id
      exact ⟨.inl, fun e => e.elim id (fun e => e ▸ e2)⟩
    · rw [if_neg e, List.mem_append]
      simp
  refine ⟨hb, ⟨h1.turn ((Kp.refl (fun q => q = g) w').setCell _ _ (.inl rfl)) (fun q hq => ⟨hq, by rw [hq]; exact h.new⟩) (fun q hq => .inl hq), hb.set k true, h.new, fun j hj => ?_, fun p hp => ?_⟩⟩
  · have hlen : k < B.length := (List.getElem?_eq_some_iff.1 (h.on k hk)).1
    by_cases e : j = k
    · subst e
      rw [List.getElem?_set_self hlen]
      congr 1
      symm
      rw [decide_eq_true_iff, hmem]
      exact .inr rfl
    · rw [List.getElem?_set_ne (fun e2 => e e2.symm), h.on j hj]
      congr 1
      rw [Bool.eq_iff_iff, decide_eq_true_iff, decide_eq_true_iff, hmem]
      exact ⟨.inl, fun h2 => h2.elim id (fun h2 => absurd (lk_inj h2) (by omega))⟩
  · rcases (hmem p).1 hp with hp | hp
    · exact h.all p hp
    · exact ⟨k, hk, hp⟩
theorem St.unlinked (h : St w0 w b g ls B) (hk : k < 50) (ht : NsTo w0 (fun q => q = g) w b (butPair ls (lk (k : Nat) 7)) [] 0 v e w') : Bl w' g B ∧ St w0 (w'.setCell ⟨g, k, none⟩ (.bool false)) b g (butPair ls (lk (k : Nat) 7)) (B.set k false) := by
  obtain ⟨-, h1, h2⟩ := ht
  have hb : Bl w' g B := h.bl.kp h2 (fun e => e rfl)
  refine ⟨hb, ⟨h1.turn ((Kp.refl (fun q => q = g) w').setCell _ _ (.inl rfl)) (fun q hq => ⟨hq, by rw [hq]; exact h.new⟩) (fun q hq => .inl hq), hb.set k false, h.new, fun j hj => ?_, fun p hp => h.all p (mem_butPair.1 hp).1⟩⟩
  have hlen : k < B.length := (List.getElem?_eq_some_iff.1 (h.on k hk)).1
  by_cases e : j = k
  · subst e
    rw [List.getElem?_set_self hlen]
    congr 1
    symm
    rw [decide_eq_false_iff_not, mem_butPair, lk_comm]
    exact fun e => e.2 rfl
  · rw [List.getElem?_set_ne (fun e2 => e e2.symm), h.on j hj]
    congr 1
    rw [Bool.eq_iff_iff, decide_eq_true_iff, decide_eq_true_iff, mem_butPair]
    exact ⟨fun h2 => ⟨h2, fun e2 => e (by rw [lk_comm (k : Nat) 7] at e2; have := lk_inj e2; omega)⟩, fun h2 => h2.1⟩
theorem St.start (hn : NS w0 (fun q => q = g) w b [] [] 0) (hb : Bl w g (List.replicate 50 false)) (hg : w0.heap.size ≤ g) : St w0 w b g [] (List.replicate 50 false) :=
  ⟨hn, hb, hg, fun k hk => by rw [List.getElem?_replicate, if_pos hk]; simp, fun p hp => by cases hp⟩
theorem mem_wl {x : Int} : x ∈ wl ls k ↔ ∃ j : Nat, j < k ∧ lk 7 (j : Nat) ∈ ls ∧ x = (j : Nat) := by
  unfold wl
  rw [List.mem_map]
  constructor
  · rintro ⟨j, hj, rfl⟩
    obtain ⟨h1, h2⟩ := List.mem_filter.1 hj
    exact ⟨j, List.mem_range.1 h1, by simpa using h2, rfl⟩
  · rintro ⟨j, h1, h2, rfl⟩
    exact ⟨j, List.mem_filter.2 ⟨List.mem_range.2 h1, by simpa using h2⟩, rfl⟩
theorem wl_sorted (ls : List (Int × Int)) (k : Nat) : (wl ls k).Pairwise (· < ·) := by
  unfold wl
  rw [List.pairwise_map]
  exact (List.pairwise_lt_range.filter _).imp fun h => by omega
theorem wl_more (h : lk 7 (k : Nat) ∈ ls) : wl ls (k + 1) = wl ls k ++ [(k : Int)] := by
  unfold wl
  rw [List.range_succ, List.filter_append, List.map_append]
  congr 1
  rw [List.filter_cons_of_pos (by simpa using h)]
  rfl
theorem wl_skip (h : ¬ lk 7 (k : Nat) ∈ ls) : wl ls (k + 1) = wl ls k := by
  unfold wl
  rw [List.range_succ, List.filter_append, List.map_append, List.filter_cons_of_neg (by simpa using h)]
  simp
theorem wl_len (ls : List (Int × Int)) (k : Nat) : (wl ls k).length ≤ k := by
  unfold wl
  rw [List.length_map]
  have := List.length_filter_le (fun j => decide (lk 7 ((j : Nat) : Int) ∈ ls)) (List.range k)
  simpa using this
/-- whom the seventh was linked to -/
theorem St.nbs (h : St w0 w b g ls B) : nbs ls 7 = wl ls 50 := by
  rw [← srt_self (wl_sorted ls 50)]
  unfold Go.Proofs.Ytmfhmnlgffgcgaa.nbs
  apply srt_of_perm
  refine (List.perm_ext_iff_of_nodup (colOf_nodup (both_nodup h.ns.ok) 7) ((wl_sorted ls 50).imp fun h e => by rw [e] at h; exact absurd h (Int.lt_irrefl _))).2 fun x => ?_
  rw [mem_colOf, mem_both h.ns.ok, mem_wl]
  constructor
  · intro hx
    obtain ⟨k, hk, e⟩ := h.all _ hx
    exact ⟨k, hk, e ▸ hx, lk_inj e⟩
  · rintro ⟨j, hj, h1, rfl⟩
    exact h1
theorem St.ends (h : St w0 w b g ls B) : endLs ls 7 = [] := by
  unfold endLs
  rw [List.filter_eq_nil_iff]
  intro p hp
  obtain ⟨k, hk, e⟩ := h.all p hp
  rw [e]
  unfold lk
  split <;> simp
/-- the row of those who are wanted, beside -/
structure Sw (w0 w : World) (b g : Nat) (ls : List (Int × Int)) (B : List Bool) (wv : Value) (k : Nat) : Prop where
  ns : NS w0 (fun q => q = g ∨ wv.ownBlock = some q) w b ls [] 0
  bl : Bl w g B
  row : Lw w wv (wl ls k)
  new : w0.heap.size ≤ g
  newr : ∀ q, wv.ownBlock = some q → w0.heap.size ≤ q ∧ q ≠ g
theorem Sw.start (h : St w0 w b g ls B) : Sw w0 w b g ls B (.slice none 0 0) 0 :=
  ⟨h.ns.put (Kp.refl _ w) (fun q hq => hq.elim .inl (fun e => by cases e)), h.bl, Lw.nil _, h.new, fun q e => by cases e⟩
theorem Sw.push {wv : Value} (h : Sw w0 w b g ls B wv k) (hk : k < 50) (hm : lk 7 (k : Nat) ∈ ls) : ∃ g2 cap w', (Builtin.append_ #[32, 32] 32 #[wv, .slice (some ⟨w.heap.size, 0, none⟩) 1 1]).run Try.prog (w.alloc (.cells #[.int .i64 (k : Nat)] 2)) = .ok (.slice (some ⟨g2, 0, none⟩) ((wl ls k).length + 1) cap) w' ∧
    Sw w0 w' b g ls B (.slice (some ⟨g2, 0, none⟩) ((wl ls k).length + 1) cap) (k + 1) := by
  have hl := wl_len ls k
  obtain ⟨g2, cap, w', h1, h2, h3, h4, h5⟩ := longs_push h.row (by omega) (k : Nat)
  have hz := h.ns.kp0.size
  have hgl := h.bl.lt
  refine ⟨g2, cap, w', h1, h.ns.turn h3 (fun q hq => ⟨.inr hq, (h.newr q hq).1⟩) (fun q hq => ?_), h.bl.kp h3 (fun e => (h.newr g e).2 rfl), ?_, h.new, fun q hq => ?_⟩
  · rcases hq with hq | hq
    · exact .inl (.inl hq)
    · have : g2 = q := by injection hq
      subst this
      exact h4.elim (fun e => .inl (.inr e)) (fun e => .inr ⟨e, h5⟩)
  · rw [wl_more hm]
    exact h2
  · have : g2 = q := by injection hq
    subst this
    rcases h4 with h4 | h4
    · exact h.newr g2 h4
    · exact ⟨by omega, by omega⟩
theorem Sw.skip {wv : Value} (h : Sw w0 w b g ls B wv k) (hm : ¬ lk 7 (k : Nat) ∈ ls) : Sw w0 w b g ls B wv (k + 1) := ⟨h.ns, h.bl, by rw [wl_skip hm]; exact h.row, h.new, h.newr⟩
theorem Sw.same {wv : Value} (h : Sw w0 w b g ls B wv k) (hk : Kp (fun _ => False) w w') : Sw w0 w' b g ls B wv k := ⟨h.ns.same hk, h.bl.kp hk (fun e => e), h.row.same hk, h.new, h.newr⟩
end
end Go.Proofs.Ytmfhmnlgffgcgaa
