/- Words of one's own that are written; several more at once. -/
import Derived.Test.YtgdmcinfgfejcaaBxIn
namespace Go
open Go.RowKit
section
variable {P : Program} (w : World)
/-- append(s, x, y, ..): so many values -/
theorem run_append_ws (t ty : TypeId) (base : Nat) (e : TypeId) (i : TypeInfo) (z : Value) (bytes : Nat) (ht : P.underlying t = some (.slice e)) (hi : P.info? e = some i) (hz : i.zero = some z)
    (hsize : i.size = 1) (hby : i.bytes = bytes) (hzc : z.cells = #[z])
    (v : Value) (n : Nat) (xs : List Value) (hown : w.ownsW base e v n xs)
    (ad : Addr) (m c : Nat) (ys : List Value) (hm : ys.length = m) (hpos : 0 < m) (hnews : ∀ j u, ys[j]? = some u → w.cell? (ad.add j) = some u) (h1s : ∀ u ∈ ys, u.oneCell' = true)
    (h63 : n + m ≤ maxLen) (hbytes : (n + m) * bytes ≤ 140737488355328) (hbase : base ≤ w.heap.size) :
    ∃ g cap w', (Builtin.append_ #[t, t] ty #[v, .slice (some ad) m c]).run P w = .ok (.slice (some ⟨g, 0, none⟩) (n + m) cap) w' ∧
      w'.ownsW base e (.slice (some ⟨g, 0, none⟩) (n + m) cap) (n + m) (xs ++ ys) ∧ w.grownBy w' v.ownBlock ∧ (v.ownBlock = some g ∨ g = w.heap.size) ∧ g < w'.heap.size := by
  subst hby
  subst hm
  have hxl := hown.1
  have hl : ys.length = ys.length * i.size := by rw [hsize]; omega
  have h63' : n + ys.length ≤ 9223372036854775807 := by unfold maxLen at h63; omega
  have grown : ∀ (old : Nat), old < n + ys.length → ∀ (row : Option Nat),
      (w.drew.alloc (.cells (xs.toArray ++ ys.toArray ++ Builtin.zeroCells z.cells (grownCap w (n + ys.length) old e - (n + ys.length))) e)).ownsW base e
        (.slice (some ⟨w.heap.size, 0, none⟩) (n + ys.length) (grownCap w (n + ys.length) old e)) (n + ys.length) (xs ++ ys) ∧
      w.grownBy (w.drew.alloc (.cells (xs.toArray ++ ys.toArray ++ Builtin.zeroCells z.cells (grownCap w (n + ys.length) old e - (n + ys.length))) e)) row ∧
      w.heap.size < (w.drew.alloc (.cells (xs.toArray ++ ys.toArray ++ Builtin.zeroCells z.cells (grownCap w (n + ys.length) old e - (n + ys.length))) e)).heap.size := by
    intro old ho row
    have hge := grownCap_ge w (n + ys.length) old e
    have hcm : grownCap w (n + ys.length) old e ≤ maxLen := grownCap_le_maxLen w (n + ys.length) old e h63
    refine ⟨⟨by simp [hxl], .inr ⟨w.heap.size, _, _, rfl, hbase, heap_alloc_new w.drew _, hge, ?_, hcm, ?_⟩⟩, ⟨rfl, rfl, rfl, by simp, fun q hq _ => by exact Below.heap_alloc w.drew _ q hq⟩, by simp⟩
    · simp only [Array.size_append, List.size_toArray, size_zeroCells, hzc, hxl]
      simp
      omega
    · simp only [Array.toList_append]
      rw [List.take_append_of_le_length (by simp; omega), List.take_of_length_le (by simp; omega)]
  rcases hown.2 with ⟨rfl, rfl⟩ | ⟨g, cap, cur, rfl, hbg, hg, hnc, hcs, hcm, htake⟩
  · have hx : xs = [] := List.eq_nil_of_length_eq_zero hxl
    subst hx
    have hr := run_append_nil (P := P) w t ty e i z ht hi hz ad ys.length c ys hl hnews (by omega) (by omega) (by have := hbytes; rw [Nat.zero_add] at this; omega)
    have hgr := grown 0 (by omega) (Value.ownBlock (.slice none 0 0))
    simp only [Nat.zero_add, List.nil_append, Array.empty_append] at hgr ⊢
    exact ⟨_, _, _, hr, hgr.1, hgr.2.1, .inr rfl, hgr.2.2⟩
  · have hglt := (Array.getElem?_eq_some_iff.1 hg).1
    by_cases hroom : n + ys.length ≤ cap
    · have hfit : n * i.size + ys.length ≤ cur.size := by rw [hsize]; omega
      have hr := run_append_room (P := P) w t ty e i ht hi g n cap cur hg ad ys.length c ys hl hnews h1s hroom hfit
      refine ⟨_, _, _, hr, ⟨by simp [hxl], .inr ⟨g, cap, _, rfl, hbg, setRow_heap w g cur _ e _ hg, hroom, ?_, hcm, ?_⟩⟩, ⟨rfl, rfl, rfl, by simp, fun k _ hk => setRow_other w g k _ (fun e => hk (by rw [e]; rfl))⟩, .inl rfl, by simpa using hglt⟩
      · rw [hsize]; simp; omega
      · rw [hsize]
        simp only [Nat.mul_one]
        rw [htake, List.take_append_of_le_length (by simp; omega), List.take_of_length_le (by simp; omega)]
    · have holds : ∀ j u, xs[j]? = some u → w.cell? ((⟨g, 0, none⟩ : Addr).add j) = some u := by
        intro j u hj
        have hadd : (⟨g, 0, none⟩ : Addr).add j = ⟨g, j, none⟩ := by rw [Go.WideShapes.add_plain, Nat.zero_add]
        obtain ⟨g', cap', e1, _, _, hc⟩ := ownsW_get hown j u hj
        injection e1 with e1
        injection e1 with e1
        injection e1 with e1
        rw [hadd, e1]; exact hc
      have hr := run_append_grow (P := P) w t ty e i z ht hi hz ⟨g, 0, none⟩ n cap xs (by rw [hsize, hxl]; omega) holds ad ys.length c ys hl hnews (by omega) (by omega) (growslice_fits (by omega) hbytes)
      have hgr := grown cap (by omega) (Value.ownBlock (.slice (some ⟨g, 0, none⟩) n cap))
      exact ⟨_, _, _, hr, hgr.1, hgr.2.1, .inr rfl, hgr.2.2⟩
end
end Go
namespace Go.Proofs.Ytgdmcinfgfejcaa
open Go.RowKit
theorem wpo_g {g g' o o' : Nat} (h : (some ⟨g, o, none⟩ : Option Addr) = some ⟨g', o', none⟩) : g = g' := by
  injection h with h
  injection h
theorem slice_nc {p q : Option Addr} {a b c d : Nat} (h : Value.slice p a b = Value.slice q c d) : a = c ∧ b = d := by
  injection h with _ h1 h2
  exact ⟨h1, h2⟩
theorem take_setW {α : Type} (l : List α) (n i : Nat) (x : α) : (l.set i x).take n = (l.take n).set i x := by
  apply List.ext_getElem?
  intro j
  by_cases hj : j < n
  · rw [List.getElem?_take_of_lt hj, List.getElem?_set, List.getElem?_set, List.getElem?_take_of_lt hj, List.length_take]
    by_cases hij : i = j
    · subst hij
      rw [if_pos rfl, if_pos rfl]
      by_cases hl : i < l.length
      · rw [if_pos hl, if_pos (by omega)]
      · rw [if_neg hl, if_neg (by omega)]
    · rw [if_neg hij, if_neg hij]
  · rw [List.getElem?_eq_none (by simp; omega), List.getElem?_eq_none (by simp; omega)]
/-- each word one more, up to the k-th -/
def bump (l : List Int) (k : Nat) : List Int := (l.take k).map (fun x => IntKind.u64.wrap (x + 1)) ++ l.drop k
theorem bump_len (l : List Int) (k : Nat) : (bump l k).length = l.length := by simp [bump]; omega
theorem bump_zero (l : List Int) : bump l 0 = l := by simp [bump]
theorem bump_set {l : List Int} {k : Nat} {x : Int} (h : l[k]? = some x) : (bump l k).set k (IntKind.u64.wrap (x + 1)) = bump l (k + 1) := by
  have hk := (List.getElem?_eq_some_iff.1 h).1
  have hx : l[k] = x := (List.getElem?_eq_some_iff.1 h).2
  unfold bump
  have h1 : ((l.take k).map (fun x => IntKind.u64.wrap (x + 1))).length = k := by simp; omega
  rw [List.set_append_right _ _ (by omega), h1, Nat.sub_self, List.drop_eq_getElem_cons hk, List.set_cons_zero, List.take_succ_eq_append_getElem hk, List.map_append, List.append_assoc, hx]
  rfl
theorem bump_get {l : List Int} {k : Nat} {x : Int} (h : l[k]? = some x) : (bump l k)[k]? = some x := by
  have hk := (List.getElem?_eq_some_iff.1 h).1
  unfold bump
  have h1 : ((l.take k).map (fun x => IntKind.u64.wrap (x + 1))).length = k := by simp; omega
  rw [List.getElem?_append_right (by omega), h1, Nat.sub_self, List.getElem?_drop, Nat.add_zero]
  exact h
/-- a word of a row is written -/
theorem wr_set {w : World} {g n cap : Nat} {l : List Int} (h : Wr w (.slice (some ⟨g, 0, none⟩) n cap) l) (k : Nat) (x : Int) :
    Wr (w.setCell ⟨g, k, none⟩ (.int .u64 x)) (.slice (some ⟨g, 0, none⟩) n cap) (l.set k x) ∧ Kp (fun q => (Value.slice (some ⟨g, 0, none⟩) n cap).ownBlock = some q) w (w.setCell ⟨g, k, none⟩ (.int .u64 x)) ∧ w.frozen? ⟨g, k, none⟩ = false := by
  rcases h.2 with ⟨e, _⟩ | ⟨g', cap', cur, e, hb, hg, h2, h3, h4, h5⟩
  · cases e
  · obtain rfl := wpo_g (slice_po e)
    obtain ⟨e1, e2⟩ := slice_nc e
    subst e2
    refine ⟨⟨by simp [wv], .inr ⟨g, cap, _, ?_, Nat.zero_le _, bx_heap_set hg _, by simpa using h2, by simpa using h3, h4, ?_⟩⟩, (Kp.refl _ w).setCell ⟨g, k, none⟩ _ (.inl rfl), by simp [World.frozen?, hg]⟩
    · rw [e1, List.length_set]
    · rw [List.length_set, Array.toList_setIfInBounds, take_setW, h5]; simp [wv, List.map_set]
/-- three more -/
theorem words_push3 {w : World} {v : Value} {l : List Int} (ho : Wr w v l) (hk : l.length + 3 ≤ 17592186044416) (x y z : Int) :
    ∃ g cap w', (Builtin.append_ #[24, 24] 24 #[v, .slice (some ⟨w.heap.size, 0, none⟩) 3 3]).run Try.prog (w.alloc (.cells #[.int .u64 x, .int .u64 y, .int .u64 z] 27)) = .ok (.slice (some ⟨g, 0, none⟩) (l.length + 3) cap) w' ∧
      Kp (fun q => v.ownBlock = some q) w w' := by
  obtain ⟨i0, hi, hz0, hz1, hz2⟩ := info_parts Try.infoWord
  have hka : Kp (fun _ => False) w (w.alloc (.cells #[.int .u64 x, .int .u64 y, .int .u64 z] 27)) := (Kp.refl _ w).alloc _
  have hown : (w.alloc (.cells #[.int .u64 x, .int .u64 y, .int .u64 z] 27)).ownsW 0 27 v l.length (wv l) := ho.same hka
  obtain ⟨g, cap, w', h1, h2, h3, h4, h5⟩ := run_append_ws (P := Try.prog) _ 24 24 0 27 i0 (.int .u64 0) 8 Try.underlying24 hi hz0 hz1 hz2 rfl v l.length (wv l) hown ⟨w.heap.size, 0, none⟩ 3 3 [.int .u64 x, .int .u64 y, .int .u64 z] rfl (by omega)
    (World.news_of_block (cs := #[.int .u64 x, .int .u64 y, .int .u64 z]) (heap_alloc_new w _)) (by intro u hu; simp at hu; rcases hu with rfl | rfl | rfl <;> rfl) (by unfold maxLen; omega) (by omega) (Nat.zero_le _)
  exact ⟨g, cap, w', h1, ((Kp.refl _ w).alloc _).grown h3 (fun q hq => .inl hq)⟩
end Go.Proofs.Ytgdmcinfgfejcaa
