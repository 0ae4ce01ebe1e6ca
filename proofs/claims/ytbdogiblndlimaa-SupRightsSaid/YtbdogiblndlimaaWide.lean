/- Slices of one-cell values that need not lie alone in their block (as 's[:j:j]' leaves them): what append does to them, and what the cutting out of an element does. -/
import Derived.Test.YtbdogiblndlimaaArBase
import Derived.Test.YtbdogiblndlimaaFrame
namespace Go
open Go.RowKit

/-- as 'ownsRow', but the block may be longer than the slice's capacity -/
def World.ownsW (w : World) (base : Nat) (e : TypeId) (v : Value) (n : Nat) (xs : List Value) : Prop :=
  xs.length = n ∧ ((v = .slice none 0 0 ∧ n = 0) ∨
    ∃ g cap cur, v = .slice (some ⟨g, 0, none⟩) n cap ∧ base ≤ g ∧ w.heap[g]? = some (.cells cur e (0, 0)) ∧ n ≤ cap ∧ cap ≤ cur.size ∧ cap ≤ maxLen ∧ cur.toList.take n = xs)

section
variable {w w' : World} {base : Nat} {e : TypeId} {v : Value} {n : Nat} {xs : List Value}

theorem ownsW_nil (w : World) (base : Nat) (e : TypeId) : w.ownsW base e (.slice none 0 0) 0 [] := ⟨rfl, .inl ⟨rfl, rfl⟩⟩
theorem ownsW_kept {row : Option Nat} (h : w.ownsW base e v n xs) (hg : w.grownBy w' row) (hne : v.ownBlock = none ∨ v.ownBlock ≠ row) : w'.ownsW base e v n xs := by
  refine ⟨h.1, ?_⟩
  rcases h.2 with hn | ⟨g, cap, cur, rfl, hb, hgg, rest⟩
  · exact .inl hn
  · refine .inr ⟨g, cap, cur, rfl, hb, ?_, rest⟩
    rw [hg.block g (Array.getElem?_eq_some_iff.1 hgg).1 (by simpa [Value.ownBlock] using hne)]
    exact hgg
theorem ownsW_heap (hh : w'.heap = w.heap) (h : w.ownsW base e v n xs) : w'.ownsW base e v n xs := by
  unfold World.ownsW at *; rw [hh]; exact h
theorem ownsW_alloc (h : w.ownsW base e v n xs) (o : Obj) : (w.alloc o).ownsW base e v n xs :=
  ownsW_kept h (World.grownBy_alloc w o none) (by cases hv : v.ownBlock <;> simp)
theorem Kp.roww {F : Nat → Prop} (h : Kp F w w') (ho : w.ownsW base e v n xs) (hF : ∀ g, v.ownBlock = some g → ¬ F g) : w'.ownsW base e v n xs := by
  refine ⟨ho.1, ?_⟩
  rcases ho.2 with hn | ⟨g, cap, cur, rfl, hb, hgg, rest⟩
  · exact .inl hn
  · refine .inr ⟨g, cap, cur, rfl, hb, ?_, rest⟩
    rw [h.block g (Array.getElem?_eq_some_iff.1 hgg).1 (hF g rfl)]
    exact hgg
theorem ownsW_lt (h : w.ownsW base e v n xs) : ∀ k, v.ownBlock = some k → base ≤ k ∧ k < w.heap.size := by
  intro k hk
  rcases h.2 with ⟨rfl, _⟩ | ⟨g, cap, cur, rfl, hb, hg, _⟩
  · simp [Value.ownBlock] at hk
  · simp [Value.ownBlock] at hk
    subst hk
    exact ⟨hb, (Array.getElem?_eq_some_iff.1 hg).1⟩
/-- an element -/
theorem ownsW_get (h : w.ownsW base e v n xs) (j : Nat) (x : Value) (hj : xs[j]? = some x) : ∃ g cap, v = .slice (some ⟨g, 0, none⟩) n cap ∧ n ≤ cap ∧ cap ≤ 9223372036854775807 ∧ w.cell? ⟨g, j, none⟩ = some x := by
  have hlt := (List.getElem?_eq_some_iff.1 hj).1
  have h1 := h.1
  rcases h.2 with ⟨_, h0⟩ | ⟨g, cap, cur, rfl, hb, hg, h2, h3, h4, h5⟩
  · omega
  · refine ⟨g, cap, rfl, h2, by unfold maxLen at h4; omega, ?_⟩
    rw [cell_of_row w g j cur e (0, 0) hg]
    rw [← h5, List.getElem?_take, if_pos (by omega)] at hj
    simpa using hj
theorem ownsW_form (h : w.ownsW base e v n xs) : ∃ po cap, v = .slice po n cap := by
  rcases h.2 with ⟨e1, e2⟩ | ⟨g, cap, _, e1, _⟩
  · rw [e2]; exact ⟨_, _, e1⟩
  · exact ⟨_, _, e1⟩
end

section
variable {P : Program} (w : World)

/-- append(s, x): one value -/
theorem run_append_w (t ty : TypeId) (base : Nat) (e : TypeId) (i : TypeInfo) (z : Value) (bytes : Nat) (ht : P.underlying t = some (.slice e)) (hi : P.info? e = some i) (hz : i.zero = some z)
    (hsize : i.size = 1) (hby : i.bytes = bytes) (hzc : z.cells = #[z])
    (v : Value) (n : Nat) (xs : List Value) (hown : w.ownsW base e v n xs)
    (ad : Addr) (c : Nat) (x : Value) (hnew : w.cell? ad = some x) (h1 : x.oneCell' = true)
    (h63 : n + 1 ≤ maxLen) (hbytes : (n + 1) * bytes ≤ 140737488355328) (hbase : base ≤ w.heap.size) :
    ∃ g cap w', (Builtin.append_ #[t, t] ty #[v, .slice (some ad) 1 c]).run P w = .ok (.slice (some ⟨g, 0, none⟩) (n + 1) cap) w' ∧
      w'.ownsW base e (.slice (some ⟨g, 0, none⟩) (n + 1) cap) (n + 1) (xs ++ [x]) ∧ w.grownBy w' v.ownBlock ∧ (v.ownBlock = some g ∨ g = w.heap.size) ∧ g < w'.heap.size := by
  subst hby
  have hxl := hown.1
  have hl : [x].length = 1 * i.size := by rw [hsize]; rfl
  have hnews : ∀ j u, [x][j]? = some u → w.cell? (ad.add j) = some u := by
    intro j u hj
    match j, hj with
    | 0, hj => simp at hj; subst hj; simpa [Addr.add] using hnew
  have h1s : ∀ u ∈ [x], u.oneCell' = true := by intro u hu; simp at hu; subst hu; exact h1
  have h63' : n + 1 ≤ 9223372036854775807 := by unfold maxLen at h63; omega
  have grown : ∀ (old : Nat), old < n + 1 → ∀ (row : Option Nat),
      (w.drew.alloc (.cells (xs.toArray ++ [x].toArray ++ Builtin.zeroCells z.cells (grownCap w (n + 1) old e - (n + 1))) e)).ownsW base e
        (.slice (some ⟨w.heap.size, 0, none⟩) (n + 1) (grownCap w (n + 1) old e)) (n + 1) (xs ++ [x]) ∧
      w.grownBy (w.drew.alloc (.cells (xs.toArray ++ [x].toArray ++ Builtin.zeroCells z.cells (grownCap w (n + 1) old e - (n + 1))) e)) row ∧
      w.heap.size < (w.drew.alloc (.cells (xs.toArray ++ [x].toArray ++ Builtin.zeroCells z.cells (grownCap w (n + 1) old e - (n + 1))) e)).heap.size := by
    intro old ho row
    have hge := grownCap_ge w (n + 1) old e
    have hcm : grownCap w (n + 1) old e ≤ maxLen := grownCap_le_maxLen w (n + 1) old e h63
    refine ⟨⟨by simp [hxl], .inr ⟨w.heap.size, _, _, rfl, hbase, heap_alloc_new w.drew _, hge, ?_, hcm, ?_⟩⟩, ⟨rfl, rfl, rfl, by simp, fun q hq _ => by exact Below.heap_alloc w.drew _ q hq⟩, by simp⟩
    · simp only [Array.size_append, List.size_toArray, size_zeroCells, hzc, hxl]
      simp
      omega
    · simp only [Array.toList_append]
      rw [List.take_append_of_le_length (by simp; omega), List.take_of_length_le (by simp; omega)]
  rcases hown.2 with ⟨rfl, rfl⟩ | ⟨g, cap, cur, rfl, hbg, hg, hnc, hcs, hcm, htake⟩
  · have hx : xs = [] := List.eq_nil_of_length_eq_zero hxl
    subst hx
    have hr := run_append_nil (P := P) w t ty e i z ht hi hz ad 1 c [x] hl hnews (by omega) (by omega) (by omega)
    have hgr := grown 0 (by omega) (Value.ownBlock (.slice none 0 0))
    simp only [Nat.zero_add, List.nil_append, Array.empty_append] at hgr ⊢
    exact ⟨_, _, _, hr, hgr.1, hgr.2.1, .inr rfl, hgr.2.2⟩
  · have hglt := (Array.getElem?_eq_some_iff.1 hg).1
    by_cases hroom : n + 1 ≤ cap
    · have hfit : n * i.size + [x].length ≤ cur.size := by rw [hsize]; simp; omega
      have hr := run_append_room (P := P) w t ty e i ht hi g n cap cur hg ad 1 c [x] hl hnews h1s hroom hfit
      refine ⟨_, _, _, hr, ⟨by simp [hxl], .inr ⟨g, cap, _, rfl, hbg, setRow_heap w g cur _ e _ hg, hroom, ?_, hcm, ?_⟩⟩, ⟨rfl, rfl, rfl, by simp, fun k _ hk => setRow_other w g k _ (fun e => hk (by simp [Value.ownBlock, e]))⟩, .inl rfl, by simpa using hglt⟩
      · rw [hsize]; simp; omega
      · rw [hsize]
        simp only [Nat.mul_one]
        rw [htake, List.take_append_of_le_length (by simp; omega), List.take_of_length_le (by simp; omega)]
    · have holds : ∀ j u, xs[j]? = some u → w.cell? ((⟨g, 0, none⟩ : Addr).add j) = some u := by
        intro j u hj
        have hadd : (⟨g, 0, none⟩ : Addr).add j = ⟨g, j, none⟩ := by unfold Addr.add; split <;> simp_all
        obtain ⟨g', cap', e1, _, _, hc⟩ := ownsW_get hown j u hj
        injection e1 with e1
        injection e1 with e1
        injection e1 with e1
        rw [hadd, e1]; exact hc
      have hr := run_append_grow (P := P) w t ty e i z ht hi hz ⟨g, 0, none⟩ n cap xs (by rw [hsize, hxl]; omega) holds ad 1 c [x] hl hnews (by omega) (by omega) (growslice_fits (by omega) hbytes)
      have hgr := grown cap (by omega) (Value.ownBlock (.slice (some ⟨g, 0, none⟩) n cap))
      exact ⟨_, _, _, hr, hgr.1, hgr.2.1, .inr rfl, hgr.2.2⟩

theorem wpList_append_w {ops : Array Oper} {rest : List Oper} {o : Oper} {a : Act} {Q : Exit → Act → World → Prop} (hgd : o.guard = none) (s x : Operand) (t : TypeId)
    (ho : o.op = .call { callee := .builtin .append, args := #[s, x], argTypes := #[t, t] })
    (base : Nat) (e : TypeId) (i : TypeInfo) (z : Value) (bytes : Nat) (ht : P.underlying t = some (.slice e)) (hi : P.info? e = some i) (hz : i.zero = some z)
    (hsize : i.size = 1) (hby : i.bytes = bytes) (hzc : z.cells = #[z])
    (v : Value) (n : Nat) (xs : List Value) (hs : a.eval s = v) (hown : w.ownsW base e v n xs)
    (ad : Addr) (c : Nat) (x0 : Value) (hx : a.eval x = .slice (some ad) 1 c) (hnew : w.cell? ad = some x0) (h1 : x0.oneCell' = true)
    (h63 : n + 1 ≤ maxLen) (hbytes : (n + 1) * bytes ≤ 140737488355328) (hbase : base ≤ w.heap.size) (H : Nat) (hH : w.heap.size = H)
    (h : ∀ g cap w', w'.ownsW base e (.slice (some ⟨g, 0, none⟩) (n + 1) cap) (n + 1) (xs ++ [x0]) → w.grownBy w' v.ownBlock → (v.ownBlock = some g ∨ g = H) → g < w'.heap.size → wpList P ops Q rest (a.put o.dst (.slice (some ⟨g, 0, none⟩) (n + 1) cap)) w') : wpList P ops Q (o :: rest) a w := by
  refine wpList_plain hgd fun _ hK => ?_
  obtain ⟨g, cap, w', hr, h2, h3, h4, h5⟩ := run_append_w (P := P) w t o.type base e i z bytes ht hi hz hsize hby hzc v n xs hown ad c x0 hnew h1 h63 hbytes hbase
  unfold Oper.wp execOp
  simp only [ho, resolve, invoke, builtin, Sem.run_bind, Sem.run_pure, Result.andThen_ok, List.map_toArray, List.map_cons, List.map_nil, hs, hx, hr]
  exact hK _ _ (h g cap w' h2 h3 (by rw [hH] at h4; exact h4) h5)

/-- append(s[:j:j], s[j+1:]...): element j is cut out; nothing that was there is written -/
theorem run_append_cut (t ty : TypeId) (base : Nat) (e : TypeId) (i : TypeInfo) (z : Value) (bytes : Nat) (ht : P.underlying t = some (.slice e)) (hi : P.info? e = some i) (hz : i.zero = some z)
    (hsize : i.size = 1) (hby : i.bytes = bytes) (hzc : z.cells = #[z])
    (g n cap : Nat) (xs : List Value) (hown : w.ownsW base e (.slice (some ⟨g, 0, none⟩) n cap) n xs) (j : Nat) (hj : j < n) (pa : Option Addr) (pc : Nat) (hpa : j + 1 < n → pa = some ⟨g, j + 1, none⟩)
    (h63 : n ≤ maxLen) (hbytes : n * bytes ≤ 140737488355328) (hbase : base ≤ w.heap.size) :
    ∃ g' cap' w', (Builtin.append_ #[t, t] ty #[.slice (some ⟨g, 0, none⟩) j j, .slice pa (n - (j + 1)) pc]).run P w = .ok (.slice (some ⟨g', 0, none⟩) (n - 1) cap') w' ∧
      w'.ownsW base e (.slice (some ⟨g', 0, none⟩) (n - 1) cap') (n - 1) (xs.eraseIdx j) ∧ w.grownBy w' none ∧ (g' = g ∨ g' = w.heap.size) := by
  subst hby
  have hxl := hown.1
  have h63' : n ≤ 9223372036854775807 := by unfold maxLen at h63; omega
  rcases hown.2 with ⟨e0, _⟩ | ⟨g2, cap2, cur, e0, hbg, hg, hnc, hcs, hcm, htake⟩
  · cases e0
  · injection e0 with e1 _ e2
    injection e1 with e1
    injection e1 with e1
    subst e1
    subst e2
    by_cases hlast : j + 1 < n
    · obtain rfl := hpa hlast
      have holds : ∀ k u, (xs.take j)[k]? = some u → w.cell? ((⟨g, 0, none⟩ : Addr).add k) = some u := by
        intro k u hk
        have hadd : (⟨g, 0, none⟩ : Addr).add k = ⟨g, k, none⟩ := by unfold Addr.add; split <;> simp_all
        rw [List.getElem?_take] at hk
        split at hk
        · obtain ⟨g', cap', e1, _, _, hc⟩ := ownsW_get hown k u hk
          injection e1 with e1
          injection e1 with e1
          injection e1 with e1
          rw [hadd, e1]; exact hc
        · cases hk
      have hnews : ∀ k u, (xs.drop (j + 1))[k]? = some u → w.cell? ((⟨g, j + 1, none⟩ : Addr).add k) = some u := by
        intro k u hk
        have hadd : (⟨g, j + 1, none⟩ : Addr).add k = ⟨g, j + 1 + k, none⟩ := by unfold Addr.add; split <;> simp_all
        rw [List.getElem?_drop] at hk
        obtain ⟨g', cap', e1, _, _, hc⟩ := ownsW_get hown (j + 1 + k) u hk
        injection e1 with e1
        injection e1 with e1
        injection e1 with e1
        rw [hadd, e1]; exact hc
      have hr := run_append_grow (P := P) w t ty e i z ht hi hz ⟨g, 0, none⟩ j j (xs.take j) (by rw [hsize]; simp; omega) holds ⟨g, j + 1, none⟩ (n - (j + 1)) pc (xs.drop (j + 1)) (by rw [hsize]; simp; omega) hnews (by omega) (by omega)
        (growslice_fits (by omega) (by rw [show j + (n - (j + 1)) = n - 1 by omega]; exact Nat.le_trans (Nat.mul_le_mul_right _ (by omega)) hbytes))
      rw [show j + (n - (j + 1)) = n - 1 by omega] at hr
      have hge := grownCap_ge w (n - 1) j e
      have hcm2 : grownCap w (n - 1) j e ≤ maxLen := grownCap_le_maxLen w (n - 1) j e (by unfold maxLen at *; omega)
      have hx : xs.eraseIdx j = xs.take j ++ xs.drop (j + 1) := List.eraseIdx_eq_take_drop_succ xs j
      refine ⟨_, _, _, hr, ⟨by rw [List.length_eraseIdx_of_lt (by omega)]; omega, .inr ⟨w.heap.size, _, _, rfl, hbase, heap_alloc_new w.drew _, hge, ?_, hcm2, ?_⟩⟩, ⟨rfl, rfl, rfl, by simp, fun q hq _ => by exact Below.heap_alloc w.drew _ q hq⟩, .inr rfl⟩
      · simp only [Array.size_append, List.size_toArray, size_zeroCells, hzc]
        simp
        omega
      · simp only [Array.toList_append]
        rw [hx, List.take_append_of_le_length (by simp; omega), List.take_of_length_le (by simp; omega)]
    · have hm0 : n - (j + 1) = 0 := by omega
      have hj1 : n - 1 = j := by omega
      rw [hm0, hj1]
      refine ⟨g, j, w, ?_, ⟨by rw [List.length_eraseIdx_of_lt (by omega)]; omega, .inr ⟨g, j, cur, rfl, hbg, hg, Nat.le_refl _, by omega, by unfold maxLen at *; omega, ?_⟩⟩, grownBy_refl w none, .inl rfl⟩
      · cases pa with
        | none => simp [Builtin.append_, run_underlying ht, sizeOf, typeInfo, hi, Builtin.lenOf, Builtin.firstCells, storeCells]
        | some ad => simp [Builtin.append_, run_underlying ht, sizeOf, typeInfo, hi, Builtin.lenOf, Builtin.firstCells, loadCells, loadCellsFrom, storeCells]
      · have hx : xs.eraseIdx j = xs.take j := by rw [List.eraseIdx_eq_take_drop_succ, List.drop_eq_nil_of_le (by omega), List.append_nil]
        rw [hx, ← htake, List.take_take, Nat.min_eq_left (by omega)]

theorem step_append_cut {ops : Array Oper} {o : Oper} {a : Act} {K : Act → World → Prop} {Q : Exit → Act → World → Prop} {E : Prop} (hgd : o.guard = none) (s x : Operand) (t : TypeId)
    (ho : o.op = .call { callee := .builtin .append, args := #[s, x], argTypes := #[t, t] })
    (base : Nat) (e : TypeId) (i : TypeInfo) (z : Value) (bytes : Nat) (ht : P.underlying t = some (.slice e)) (hi : P.info? e = some i) (hz : i.zero = some z)
    (hsize : i.size = 1) (hby : i.bytes = bytes) (hzc : z.cells = #[z])
    (g n cap : Nat) (xs : List Value) (hown : w.ownsW base e (.slice (some ⟨g, 0, none⟩) n cap) n xs) (j : Nat) (hj : j < n) (hs : a.eval s = .slice (some ⟨g, 0, none⟩) j j)
    (pa : Option Addr) (pc : Nat) (hx : a.eval x = .slice pa (n - (j + 1)) pc) (hpa : j + 1 < n → pa = some ⟨g, j + 1, none⟩)
    (h63 : n ≤ maxLen) (hbytes : n * bytes ≤ 140737488355328) (hbase : base ≤ w.heap.size) (H : Nat) (hH : w.heap.size = H)
    (h : ∀ g' cap' w', w'.ownsW base e (.slice (some ⟨g', 0, none⟩) (n - 1) cap') (n - 1) (xs.eraseIdx j) → w.grownBy w' none → (g' = g ∨ g' = H) → K (a.put o.dst (.slice (some ⟨g', 0, none⟩) (n - 1) cap')) w') :
    if Region.wanted o (yielded ops a.tmps) = true then Oper.wp P o a w K Q else E := by
  have hw : Region.wanted o (yielded ops a.tmps) = true := by simp [Region.wanted, hgd]
  rw [if_pos hw]
  obtain ⟨g', cap', w', hr, h2, h3, h4⟩ := run_append_cut (P := P) w t o.type base e i z bytes ht hi hz hsize hby hzc g n cap xs hown j hj pa pc hpa h63 hbytes hbase
  unfold Oper.wp execOp
  simp only [ho, resolve, invoke, builtin, Sem.run_bind, Sem.run_pure, Result.andThen_ok, List.map_toArray, List.map_cons, List.map_nil, hs, hx, hr]
  exact h g' cap' w' h2 h3 (by rw [hH] at h4; exact h4)
end
end Go
