/- A table whose slots are all given, beside two rows of numbers: generations, and who lives. -/
import Derived.Test.YtdcmdidikengbaaTbNever
import Derived.Laws.MakeOwn
import Derived.Laws.OwnMore
namespace Go.Proofs.Ytdcmdidikengbaa
open Go.RowKit
set_option linter.unusedVariables false

/-- n slots: each one's generation, and whether it lives -/
def sgOn (n : Nat) (gen : Nat → Nat) (on : Nat → Bool) : List Sg := (List.range n).map fun k => ⟨k + 64 * gen k, on k⟩
def gsOf (n : Nat) (gen : Nat → Nat) : List Int := (List.range n).map fun k => (gen k : Int)
def lsOf (n : Nat) (gen : Nat → Nat) : List Int := (List.range n).map fun k => ((k + 64 * gen k : Nat) : Int)
def allOn : Nat → Bool := fun _ => true
def bump (gen : Nat → Nat) (a : Nat) : Nat → Nat := upd gen a (gen a + 1)
section
variable {n a k : Nat} {gen : Nat → Nat} {on : Nat → Bool}
theorem sgOn_len : (sgOn n gen on).length = n := by simp [sgOn]
theorem sgOn_get (h : k < n) : (sgOn n gen on)[k]? = some ⟨k + 64 * gen k, on k⟩ := by simp [sgOn, h]
theorem gsOf_get (h : k < n) : (gsOf n gen)[k]? = some (gen k : Int) := by simp [gsOf, h]
theorem lsOf_get (h : k < n) : (lsOf n gen)[k]? = some ((k + 64 * gen k : Nat) : Int) := by simp [lsOf, h]
theorem gsOf_len : (gsOf n gen).length = n := by simp [gsOf]
theorem lsOf_len : (lsOf n gen).length = n := by simp [lsOf]
theorem range_set {α : Type} (f g : Nat → α) (n k : Nat) (x : α) (hg : ∀ j, j < n → g j = if j = k then x else f j) : ((List.range n).map f).set k x = (List.range n).map g := by
  refine List.ext_getElem? fun j => ?_
  by_cases hj : j < n
  · rw [List.getElem?_set]
    simp only [List.length_map, List.length_range]
    by_cases e : k = j
    · subst e
      rw [if_pos rfl, if_pos hj]
      simp [hj, hg k hj]
    · rw [if_neg e]
      have e2 : ¬ j = k := fun e2 => e e2.symm
      simp [hj, hg j hj, e2]
  · rw [List.getElem?_eq_none (by simp; omega), List.getElem?_eq_none (by simp; omega)]
theorem sgOn_kind (h : k < n) (hn : n ≤ 64) : kindAt (sgOn n gen on) ((k + 64 * gen k : Nat) : Int) = if on k = true then 0 else 4 := by
  have e : (slotAt ((k + 64 * gen k : Nat) : Int)).toNat = k := by rw [slotAt_nat]; omega
  rw [kindAt_in (by omega) (by rw [e]; exact sgOn_get h), if_neg (by simp)]
  cases on k <;> simp
theorem sgOn_drop (h : a < n) : dropAt (sgOn n gen on) a = sgOn n gen (upd on a false) := by
  unfold dropAt
  rw [sgOn_get h]
  unfold sgOn
  refine range_set _ _ n a _ fun j hj => ?_
  by_cases e : j = a
  · subst e; simp [upd_same]
  · simp [upd_other _ _ e, e]
theorem sgOn_free (h : a < n) (ho : on a = false) (hb : ∀ j, j < a → on j = true) : freeAt (sgOn n gen on) = a :=
  freeAt_is (sgOn_get h) ho (fun j x hj hx => by
    rw [sgOn_get (by omega)] at hx
    obtain rfl := Option.some.inj hx
    exact hb j hj)
theorem sgOn_full (hb : ∀ j, j < n → on j = true) : freeAt (sgOn n gen on) = n := by
  have := freeAt_end (sl := sgOn n gen on) (fun j x hj hx => by
    rw [sgOn_len] at hj
    rw [sgOn_get hj] at hx
    obtain rfl := Option.some.inj hx
    exact hb j hj)
  rw [this, sgOn_len]
theorem sgOn_add (h : a < n) (ho : on a = false) (hb : ∀ j, j < a → on j = true) : addTo (sgOn n gen on) = sgOn n (bump gen a) (upd on a true) ∧ addPid (sgOn n gen on) = a + 64 * (gen a + 1) := by
  unfold addTo addPid
  rw [sgOn_free h ho hb, sgOn_get h]
  refine ⟨?_, by simp only []; omega⟩
  unfold sgOn
  refine range_set _ _ n a _ fun j hj => ?_
  by_cases e : j = a
  · subst e; simp [upd_same, bump]; omega
  · simp [upd_other _ _ e, e, bump]
theorem gsOf_bump (h : a < n) : (gsOf n gen).set a (((gen a + 1 : Nat)) : Int) = gsOf n (bump gen a) := by
  unfold gsOf
  refine range_set _ _ n a _ fun j hj => ?_
  by_cases e : j = a
  · subst e; simp [upd_same, bump]
  · simp [upd_other _ _ e, e, bump]
theorem lsOf_bump (h : a < n) : (lsOf n gen).set a ((a + 64 * (gen a + 1) : Nat) : Int) = lsOf n (bump gen a) := by
  unfold lsOf
  refine range_set _ _ n a _ fun j hj => ?_
  by_cases e : j = a
  · subst e; simp [upd_same, bump]
  · simp [upd_other _ _ e, e, bump]
theorem livesOf_sgOn : livesOf (sgOn n gen allOn) = lsOf n gen := by
  unfold livesOf sgOn lsOf
  rw [List.filter_eq_self.2 (fun s hs => by
    obtain ⟨j, _, rfl⟩ := List.mem_map.1 hs
    rfl), List.map_map]
  rfl
theorem sgOn_first : firstN n = sgOn n (fun _ => 0) allOn := by
  unfold firstN sgOn
  simp [allOn]
theorem sgOn_congr {gen2 : Nat → Nat} {on2 : Nat → Bool} (h1 : ∀ j, j < n → gen j = gen2 j) (h2 : ∀ j, j < n → on j = on2 j) : sgOn n gen on = sgOn n gen2 on2 := by
  unfold sgOn
  exact List.map_congr_left (fun j hj => by rw [h1 j (List.mem_range.1 hj), h2 j (List.mem_range.1 hj)])
end

section
variable {w w' : World} {l : List Int}
theorem longs_set {g cap : Nat} (h : Lw w (.slice (some ⟨g, 0, none⟩) l.length cap) l) (k : Nat) (x : Int) :
    Lw (w.setCell ⟨g, k, none⟩ (.int .i64 x)) (.slice (some ⟨g, 0, none⟩) l.length cap) (l.set k x) ∧ Kp (fun q => q = g) w (w.setCell ⟨g, k, none⟩ (.int .i64 x)) := by
  rcases h.2 with ⟨e, _⟩ | ⟨g', cap', cur, e, hb, hg, h2, h3, h4, h5⟩
  · cases e
  · injection e with e1 _ e2
    injection e1 with e1
    injection e1 with e1
    subst e1 e2
    refine ⟨?_, (Kp.refl _ w).setCell _ _ (.inl rfl)⟩
    unfold Lw
    rw [List.length_set]
    refine ⟨by rw [lv_len, List.length_set], .inr ⟨g, cap, _, rfl, hb, heap_setT hg _, h2, by simpa using h3, h4, ?_⟩⟩
    rw [Array.toList_setIfInBounds, List.take_set, h5]
    unfold lv
    rw [List.map_set]
theorem longs_fz {g cap n : Nat} (h : Lw w (.slice (some ⟨g, 0, none⟩) n cap) l) (o : Nat) : w.frozen? ⟨g, o, none⟩ = false := by
  rcases h.2 with ⟨e, _⟩ | ⟨g', cap', cur, e, hb, hg, _⟩
  · cases e
  · injection e with e1
    injection e1 with e1
    injection e1 with e1
    subst e1
    simp [World.frozen?, hg]
theorem longs_made (n : Nat) (h1 : 1 ≤ n) (hn : n ≤ 64) : Lw (w.alloc (.cells (madeCells #[.int .i64 0] n) 2)) (.slice (some ⟨w.heap.size, 0, none⟩) n n) (List.replicate n 0) := by
  refine ⟨by simp [lv], .inr ⟨w.heap.size, n, _, ?_, Nat.zero_le _, heap_alloc_new w _, by simp, by simp [size_madeCells], by unfold maxLen; omega, ?_⟩⟩
  · simp
  · rw [toList_madeCells_one, List.take_of_length_le (by simp)]
    simp [lv]
end
/-- a table and two rows of n numbers each, in blocks G1 and G2 -/
structure R2 (w0 w : World) (b n B G1 G2 : Nat) (sl : List Sg) (gs ls : List Int) : Prop where
  ts : TS w0 (fun q => q = G1 ∨ q = G2) w b n B sl []
  gr : Lw w (.slice (some ⟨G1, 0, none⟩) gs.length n) gs
  lr : Lw w (.slice (some ⟨G2, 0, none⟩) ls.length n) ls
  gl : gs.length = n
  ll : ls.length = n
  newg : w0.heap.size ≤ G1
  newl : w0.heap.size ≤ G2
  ne : G1 ≠ G2
section
variable {w0 w w' : World} {b n B G1 G2 : Nat} {sl : List Sg} {gs ls : List Int}
theorem R2.same (h : R2 w0 w b n B G1 G2 sl gs ls) (hk : Kp (fun _ => False) w w') : R2 w0 w' b n B G1 G2 sl gs ls :=
  ⟨h.ts.same hk, h.gr.same hk, h.lr.same hk, h.gl, h.ll, h.newg, h.newl, h.ne⟩
theorem R2.le (h : R2 w0 w b n B G1 G2 sl gs ls) {B' : Nat} (hB : B ≤ B') : R2 w0 w b n B' G1 G2 sl gs ls := ⟨h.ts.le hB, h.gr, h.lr, h.gl, h.ll, h.newg, h.newl, h.ne⟩
theorem R2.turned (h : R2 w0 w b n B G1 G2 sl gs ls) {B' : Nat} {sl' : List Sg} (h2 : TS w0 (fun q => q = G1 ∨ q = G2) w' b n B' sl' []) (hk : Kp (fun q => ¬ (q = G1 ∨ q = G2)) w w') : R2 w0 w' b n B' G1 G2 sl' gs ls :=
  ⟨h2, h.gr.kp hk (fun q hq e => e (.inl (by injection hq with hq; exact hq.symm))), h.lr.kp hk (fun q hq e => e (.inr (by injection hq with hq; exact hq.symm))), h.gl, h.ll, h.newg, h.newl, h.ne⟩
theorem r2_add (h : R2 w0 w b n B G1 G2 sl gs ls) (hf : freeAt sl < n) (hB : B + 64 ≤ 2305843009213693952) :
    Calls Try.prog 11 #[.pointer (some ⟨b, 0, none⟩)] w (fun e w' => e = .returned (.tuple #[.int .i64 (addPid sl : Nat), .nilIface]) ∧ R2 w0 w' b n (B + 64) G1 G2 (addTo sl) gs ls) := by
  refine (ts_add h.ts hf hB).mono ?_
  rintro e w' ⟨rfl, h1, hk⟩
  exact ⟨rfl, h.turned h1 hk⟩
theorem r2_drop (h : R2 w0 w b n B G1 G2 sl gs ls) {p : Nat} (hk : kindAt sl (p : Nat) = 0) :
    Calls Try.prog 14 #[.pointer (some ⟨b, 0, none⟩), .int .i64 (p : Nat)] w (fun e w' => ∃ u, e = .returned (.tuple #[u, .nilIface]) ∧ R2 w0 w' b n B G1 G2 (dropAt sl (p % 64)) gs ls) := by
  refine (ts_drop h.ts p hk).mono ?_
  rintro e w' ⟨u, rfl, -, -, h1, hkp⟩
  exact ⟨u, rfl, h.turned h1 hkp⟩
theorem r2_drop_bad (h : R2 w0 w b n B G1 G2 sl gs ls) {p : Nat} (hk : kindAt sl (p : Nat) ≠ 0) :
    Calls Try.prog 14 #[.pointer (some ⟨b, 0, none⟩), .int .i64 (p : Nat)] w (fun e w' => ∃ g, e = .returned (.tuple #[.slice none 0 0, .iface 38 (.pointer (some ⟨g, 0, none⟩))]) ∧ R2 w0 w' b n B G1 G2 sl gs ls) := by
  refine (ts_drop_bad h.ts _ hk).mono ?_
  rintro e w' ⟨u, rfl, hu, hk2⟩
  obtain ⟨g, rfl⟩ := hu.out.form
  exact ⟨g, rfl, h.same hk2⟩
theorem R2.setg (h : R2 w0 w b n B G1 G2 sl gs ls) (k : Nat) (x : Int) : R2 w0 (w.setCell ⟨G1, k, none⟩ (.int .i64 x)) b n B G1 G2 sl (gs.set k x) ls := by
  obtain ⟨h1, h2⟩ := longs_set h.gr k x
  refine ⟨h.ts.turn h2 (fun q hq => by subst hq; exact ⟨.inl rfl, h.newg⟩) (fun q hq => .inl hq), by rw [List.length_set]; exact h1, h.lr.kp h2 (fun q hq e => by
    have e2 : G2 = q := by injection hq
    exact h.ne (by omega)), by rw [List.length_set]; exact h.gl, h.ll, h.newg, h.newl, h.ne⟩
theorem R2.setl (h : R2 w0 w b n B G1 G2 sl gs ls) (k : Nat) (x : Int) : R2 w0 (w.setCell ⟨G2, k, none⟩ (.int .i64 x)) b n B G1 G2 sl gs (ls.set k x) := by
  obtain ⟨h1, h2⟩ := longs_set h.lr k x
  refine ⟨h.ts.turn h2 (fun q hq => by subst hq; exact ⟨.inr rfl, h.newl⟩) (fun q hq => .inl hq), h.gr.kp h2 (fun q hq e => by
    have e2 : G1 = q := by injection hq
    exact h.ne (by omega)), by rw [List.length_set]; exact h1, h.gl, by rw [List.length_set]; exact h.ll, h.newg, h.newl, h.ne⟩
theorem R2.gget (h : R2 w0 w b n B G1 G2 sl gs ls) {k : Nat} {x : Int} (hk : gs[k]? = some x) : w.cell? ⟨G1, k, none⟩ = some (.int .i64 x) := by
  obtain ⟨g, c, e, -, -, hc⟩ := h.gr.get hk
  injection e with e
  injection e with e
  injection e with e
  rw [e]; exact hc
theorem R2.lget (h : R2 w0 w b n B G1 G2 sl gs ls) {k : Nat} {x : Int} (hk : ls[k]? = some x) : w.cell? ⟨G2, k, none⟩ = some (.int .i64 x) := by
  obtain ⟨g, c, e, -, -, hc⟩ := h.lr.get hk
  injection e with e
  injection e with e
  injection e with e
  rw [e]; exact hc
theorem R2.fg (h : R2 w0 w b n B G1 G2 sl gs ls) (o : Nat) : w.frozen? ⟨G1, o, none⟩ = false := longs_fz h.gr o
theorem R2.fl (h : R2 w0 w b n B G1 G2 sl gs ls) (o : Nat) : w.frozen? ⟨G2, o, none⟩ = false := longs_fz h.lr o
theorem R2.start {w0 w w1 w2 : World} (h : TS w0 noC w b n 0 [] []) (h1 : 1 ≤ n) (hn : n ≤ 64) (e1 : w.alloc (.cells (madeCells #[.int .i64 0] n) 2) = w1) (e2 : w1.alloc (.cells (madeCells #[.int .i64 0] n) 2) = w2) :
    R2 w0 w2 b n 0 w.heap.size w1.heap.size [] (List.replicate n 0) (List.replicate n 0) := by
  have hz1 : w1.heap.size = w.heap.size + 1 := by rw [← e1]; simp
  have hz2 : w2.heap.size = w1.heap.size + 1 := by rw [← e2]; simp
  have hk1 : Kp (fun _ => False) w w1 := by rw [← e1]; exact (Kp.refl _ w).alloc _
  have hk2 : Kp (fun _ => False) w1 w2 := by rw [← e2]; exact (Kp.refl _ w1).alloc _
  have hl1 := longs_made (w := w) n h1 hn
  have hl2 := longs_made (w := w1) n h1 hn
  rw [e1] at hl1
  rw [e2] at hl2
  have hz0 := h.kp0.size
  refine ⟨h.put (hk1.trans' hk2) (fun q hq => .inr (by rcases hq with hq | hq <;> omega)), ?_, ?_, by simp, by simp, by omega, by omega, by omega⟩
  · rw [List.length_replicate]; exact hl1.same hk2
  · rw [List.length_replicate]; exact hl2
end
end Go.Proofs.Ytdcmdidikengbaa
