/- A time is noted: behind all others that are no later. -/
import Derived.Test.YtbdogiblndlimaaSuMem
import Derived.Test.YtbdogiblndlimaaShelf
import Derived.Test.YtbdogiblndlimaaIns
import Derived.Shelf.Spec.SlicesInsertGrow
namespace Go.Proofs.Ytbdogiblndlimaa
open Go.RowKit
set_option linter.unusedVariables false

theorem setCells_heap (b : Nat) : ∀ (vs : List Value) (o : Nat) (w : World) (cur : Array Value) (T : TypeId) (fr : Nat × Nat), w.heap[b]? = some (.cells cur T fr) →
    ∃ cur', (w.setCells b o vs).heap[b]? = some (.cells cur' T fr) ∧ cur'.size = cur.size ∧ (∀ j, j < o ∨ o + vs.length ≤ j → cur'[j]? = cur[j]?) ∧ (o + vs.length ≤ cur.size → ∀ j, j < vs.length → cur'[o + j]? = vs[j]?)
  | [], o, w, cur, T, fr, h => ⟨cur, h, rfl, fun _ _ => rfl, fun _ j hj => by simp at hj⟩
  | v :: r, o, w, cur, T, fr, h => by
    obtain ⟨cur', h1, h2, h3, h4⟩ := setCells_heap b r (o + 1) (w.setCell ⟨b, o, none⟩ v) _ T fr (su_heap_set h v)
    refine ⟨cur', h1, by rw [h2]; simp, fun j hj => ?_, fun hs j hj => ?_⟩
    · rw [h3 j (by simp at hj; omega)]
      rw [Array.getElem?_setIfInBounds_ne (by simp at hj; omega)]
    · cases j with
      | zero =>
        simp at hs
        rw [Nat.add_zero, h3 o (by omega)]
        rw [Array.getElem?_setIfInBounds_self_of_lt (by omega)]
        rfl
      | succ j =>
        simp at hs hj
        rw [show o + (j + 1) = o + 1 + j by omega, h4 (by simp; omega) j hj]
        simp
theorem kp_setCells {F : Nat → Prop} {w : World} (b : Nat) (hb : F b ∨ w.heap.size ≤ b) : ∀ (vs : List Value) (o : Nat) {w' : World}, Kp F w w' → Kp F w (w'.setCells b o vs)
  | [], _, _, h => h
  | v :: r, o, _, h => kp_setCells b hb r (o + 1) (h.setCell ⟨b, o, none⟩ v hb)

def zsOf (ts : List Nat) : List Int := ts.map fun x => ((x : Nat) : Int)
theorem zsOf_len (ts : List Nat) : (zsOf ts).length = ts.length := by simp [zsOf]
theorem zsOf_get {ts : List Nat} {i x : Nat} (h : ts[i]? = some x) : (zsOf ts)[i]? = some (x : Int) := by simp [zsOf, h]
theorem count_spot (now : Nat) : ∀ (ts : List Nat), ts.Pairwise (fun x y => x ≤ y) → (∀ x ∈ ts, x ≤ now) → ∀ i x, (zsOf ts).countP (· < (now : Int)) ≤ i → ts[i]? = some x → x = now
  | [], _, _, i, x, _, h => by simp at h
  | a :: l, hs, hn, i, x, hi, h => by
    obtain ⟨h1, h2⟩ := List.pairwise_cons.1 hs
    have ha := hn a (by simp)
    by_cases hlt : a < now
    · have : (zsOf (a :: l)).countP (· < (now : Int)) = (zsOf l).countP (· < (now : Int)) + 1 := by
        show List.countP _ (((a : Nat) : Int) :: zsOf l) = _
        rw [List.countP_cons_of_pos (by simpa using hlt)]
      rw [this] at hi
      cases i with
      | zero => omega
      | succ i => exact count_spot now l h2 (fun x hx => hn x (by simp [hx])) i x (by omega) (by simpa using h)
    · have hx := List.mem_of_getElem? h
      have hx2 := hn x hx
      rcases List.mem_cons.1 hx with rfl | hx
      · omega
      · have := h1 x hx; omega
theorem spot_in {ts : List Nat} {now p : Nat} (hp : p ≤ ts.length) (hsp : ∀ i x, p ≤ i → ts[i]? = some x → x = now) : ∀ i x, p ≤ i → (ts ++ [now])[i]? = some x → x = now := by
  intro i x hi h
  rcases Nat.lt_or_ge i ts.length with hl | hl
  · rw [List.getElem?_append_left hl] at h
    exact hsp i x hi h
  · rw [List.getElem?_append_right hl] at h
    obtain ⟨j, hj⟩ : ∃ j, i - ts.length = j := ⟨_, rfl⟩
    rw [hj] at h
    cases j with
    | zero => simpa using h.symm
    | succ j => simp at h
section
variable {w w' : World} {tv : Value} {ts : List Nat} {now p : Nat}
/-- what Insert leaves -/
def InsTo (w : World) (tv : Value) (ts : List Nat) (e : Ending) (w' : World) : Prop :=
  ∃ tv', e = .returned tv' ∧ TmAt w' tv' ts ∧ (∀ g, tv'.ownBlock = some g → tv.ownBlock = some g ∨ w.heap.size ≤ g) ∧ Kp (fun q => tv.ownBlock = some q) w w'
def tsC (ts : List Nat) : List Value := (zsOf ts).map (Value.int .i64)
theorem tsC_len (ts : List Nat) : (tsC ts).length = ts.length := by simp [tsC, zsOf]
theorem tsC_get {ts : List Nat} {i x : Nat} (h : ts[i]? = some x) : (tsC ts)[i]? = some (.int .i64 (x : Nat)) := by simp [tsC, zsOf, h]
theorem tsC_got {ts : List Nat} {i : Nat} {u : Value} (h : (tsC ts)[i]? = some u) : ∃ x, ts[i]? = some x ∧ u = .int .i64 ((x : Nat) : Int) := by
  unfold tsC zsOf at h
  rw [List.getElem?_map, List.getElem?_map] at h
  cases hx : ts[i]? with
  | none => rw [hx] at h; simp at h
  | some x => rw [hx] at h; simp at h; exact ⟨x, rfl, h.symm⟩
theorem tsC_one (ts : List Nat) : ∀ u ∈ tsC ts, u.oneCell' = true := by
  intro u hu
  obtain ⟨x, _, rfl⟩ := List.mem_map.1 hu
  rfl
/-- one more time, at its place -/
theorem insert_any (h : TmAt w tv ts) (hl : ts.length ≤ 1001) (hp : p ≤ ts.length) (hsp : ∀ i x, p ≤ i → ts[i]? = some x → x = now) :
    Calls Try.prog 51 #[tv, .int .i64 (p : Nat), .slice (some ⟨w.heap.size, 0, none⟩) 1 1] (w.alloc (.cells #[.int .i64 (now : Nat)] 3)) (InsTo w tv (ts ++ [now])) := by
  have hka : Kp (fun _ => False) w (w.alloc (.cells #[.int .i64 (now : Nat)] 3)) := (Kp.refl _ w).alloc _
  have ha := h.same hka
  have hsp2 := spot_in hp hsp
  obtain ⟨wa, hwa⟩ : ∃ wa, w.alloc (.cells #[.int .i64 (now : Nat)] 3) = wa := ⟨_, rfl⟩
  have hnew : wa.heap[w.heap.size]? = some (.cells #[.int .i64 (now : Nat)] 3 (0, 0)) := by rw [← hwa]; exact heap_alloc_new w _
  have hsz : wa.heap.size = w.heap.size + 1 := by rw [← hwa]; simp
  rw [hwa] at ha hka ⊢
  have hvs : ∀ (j : Nat) (v : Value), [Value.int .i64 (now : Nat)][j]? = some v → wa.cell? ⟨w.heap.size, 0 + j, none⟩ = some v := fun j v hj => by
    rw [Nat.zero_add, cell_of_row _ _ j _ _ _ hnew, ← hj]
    simp
  have h1v : ∀ v ∈ [Value.int .i64 ((now : Nat) : Int)], v.oneCell' = true := by intro v hv; simp at hv; subst hv; rfl
  have hlen : (ts ++ [now]).length = ts.length + 1 := by simp
  rcases ha with ⟨rfl, rfl⟩ | ⟨g, off, cap, cur, rfl, hg, hlc, hoc, hcm, hcur⟩
  · have hp0 : p = 0 := by simpa using hp
    subst hp0
    refine (Any2.slices_Insert_int_end_grow Try.laysIns none 0 0 w.heap.size 0 1 1 [] [Value.int .i64 ((now : Nat) : Int)] wa (by omega) (by omega) (by omega) (by omega) rfl rfl (fun _ => rfl) (fun a e => by cases e) hvs h1v).mono ?_
    rintro e w' hx
    have hx' : e = .returned (.slice (some ⟨wa.heap.size, 0, none⟩) (0 + 1) (grownCap wa (0 + 1) 0 3)) ∧ w' = wa.drew.alloc (.cells (([] ++ [Value.int .i64 ((now : Nat) : Int)] : List Value).toArray ++ Builtin.zeroCells (Value.int .i64 0).cells (grownCap wa (0 + 1) 0 3 - (0 + 1))) 3) := hx
    obtain ⟨rfl, rfl⟩ := hx'
    have hkn : Kp (fun _ => False) wa (wa.drew.alloc (.cells (([] ++ [Value.int .i64 ((now : Nat) : Int)] : List Value).toArray ++ Builtin.zeroCells (Value.int .i64 0).cells (grownCap wa (0 + 1) 0 3 - (0 + 1))) 3)) := (Kp.refl _ wa).drew.alloc _
    have hge := grownCap_ge wa (0 + 1) 0 3
    have hcm : grownCap wa (0 + 1) 0 3 ≤ 9223372036854775807 := by have := grownCap_le_maxLen wa (0 + 1) 0 3 (by unfold maxLen; omega); unfold maxLen at this; omega
    refine ⟨_, rfl, .inr ⟨wa.heap.size, 0, grownCap wa (0 + 1) 0 3, _, rfl, heap_alloc_new wa.drew _, hge, ?_, hcm, fun i x hi => ?_⟩, fun g hg => ?_, (hka.trans' hkn).mono fun _ _ e => e.elim⟩
    · simp only [Array.size_append, List.size_toArray, size_zeroCells]
      simp [Value.cells]
      omega
    · have : i = 0 := by
        have := (List.getElem?_eq_some_iff.1 hi).1
        simp at this
        omega
      subst this
      obtain rfl : now = x := by simpa using hi
      rw [Array.getElem?_append_left (by simp)]
      rfl
    · obtain rfl : wa.heap.size = g := by injection hg
      exact .inr (by omega)
  · have hgl : g < wa.heap.size := (Array.getElem?_eq_some_iff.1 hg).1
    have hgw : g < w.heap.size := by
      rcases h with ⟨e, _⟩ | ⟨g', _, _, _, e, e2, _⟩
      · cases e
      · injection e with e; injection e with e; injection e with e
        rw [e]; exact (Array.getElem?_eq_some_iff.1 e2).1
    have hcs : ∀ (j : Nat) (v : Value), (tsC ts)[j]? = some v → wa.cell? ⟨g, off + j, none⟩ = some v := fun j v hj => by
      obtain ⟨x, hx, rfl⟩ := tsC_got hj
      rw [cell_of_row _ _ _ _ _ _ hg, hcur j x hx]
    have hcell : ∀ j, off + j < cur.size → (wa.cell? ⟨g, off + j, none⟩).isSome = true := fun j hj => by
      rw [cell_of_row _ _ _ _ _ _ hg, Array.getElem?_eq_getElem hj]; rfl
    have hfz : ∀ j, wa.frozen? ⟨g, j, none⟩ = false := fun j => by simp [World.frozen?, hg]
    have hown : ∀ q, Value.ownBlock (.slice (some ⟨g, off, none⟩) ts.length cap) = some q → g = q := fun q e => by injection e
    by_cases hroom : ts.length + 1 ≤ cap
    · by_cases hpn : p < ts.length
      · refine (Any2.slices_Insert_int_shift Try.laysIns g off ts.length cap p w.heap.size 0 1 1 (tsC ts) [Value.int .i64 ((now : Nat) : Int)] wa hpn (by omega) hroom hcm (by omega) (tsC_len ts) rfl hcs (fun j hj => hcell j (by omega)) (fun j _ => hfz _) hvs (tsC_one ts) h1v
          3 3 1 cur.size (by simp [World.shape?, hnew]) (by simp [World.shape?, hg]) (by omega) (by simp [World.frozen?, hnew]) (by simp [World.frozen?, hnew])).mono ?_
        rintro e w' ⟨rfl, rfl⟩
        have hg1 : wa.drew.heap[g]? = some (.cells cur 3 (0, 0)) := hg
        obtain ⟨c1, g1, z1, o1, n1⟩ := setCells_heap g ((tsC ts).drop p) (off + (p + 1)) wa.drew cur _ _ hg1
        obtain ⟨c2, g2, z2, o2, n2⟩ := setCells_heap g [Value.int .i64 ((now : Nat) : Int)] (off + p) _ c1 _ _ g1
        have hdl : ((tsC ts).drop p).length = ts.length - p := by rw [List.length_drop, tsC_len]
        refine ⟨_, rfl, .inr ⟨g, off, cap, c2, by rw [hlen], g2, by omega, by omega, hcm, fun i x hi => ?_⟩, fun q hq => .inl hq, ?_⟩
        · have hil := (List.getElem?_eq_some_iff.1 hi).1
          rw [hlen] at hil
          rcases Nat.lt_or_ge i p with hip | hip
          · rw [o2 _ (by simp; omega), o1 _ (by omega)]
            rw [List.getElem?_append_left (by omega)] at hi
            exact hcur i x hi
          · obtain rfl := hsp2 i x hip hi
            rcases Nat.eq_or_lt_of_le hip with rfl | hip2
            · have := n2 (by simp; omega) 0 (by simp)
              rw [Nat.add_zero] at this
              rw [this]; rfl
            · rw [o2 _ (by simp; omega)]
              have := n1 (by omega) (i - (p + 1)) (by omega)
              rw [show off + (p + 1) + (i - (p + 1)) = off + i by omega] at this
              rw [this, List.getElem?_drop, show p + (i - (p + 1)) = i - 1 by omega]
              obtain ⟨y, hy⟩ : ∃ y, ts[i - 1]? = some y := ⟨_, List.getElem?_eq_getElem (by omega)⟩
              rw [tsC_get hy, hsp (i - 1) y (by omega) hy]
        · exact kp_setCells (F := fun q => Value.ownBlock (.slice (some ⟨g, off, none⟩) ts.length cap) = some q) g (.inl rfl) _ _ (kp_setCells (F := fun q => Value.ownBlock (.slice (some ⟨g, off, none⟩) ts.length cap) = some q) g (.inl rfl) _ _ ((hka.mono fun _ _ e => e.elim).drew))
      · obtain rfl : p = ts.length := by omega
        refine (Any2.slices_Insert_int_end_room Try.laysIns g off ts.length cap w.heap.size 0 1 1 [Value.int .i64 ((now : Nat) : Int)] wa (by omega) hroom hcm rfl (fun j hj => by rw [Nat.add_assoc]; exact hcell _ (by omega)) (fun j _ => hfz _) hvs h1v).mono ?_
        rintro e w' ⟨rfl, rfl⟩
        obtain ⟨c2, g2, z2, o2, n2⟩ := setCells_heap g [Value.int .i64 ((now : Nat) : Int)] (off + ts.length) _ cur _ _ hg
        refine ⟨_, rfl, .inr ⟨g, off, cap, c2, by rw [hlen], g2, by omega, by omega, hcm, fun i x hi => ?_⟩, fun q hq => .inl hq, kp_setCells (F := fun q => Value.ownBlock (.slice (some ⟨g, off, none⟩) ts.length cap) = some q) g (.inl rfl) _ _ (hka.mono fun _ _ e => e.elim)⟩
        have hil := (List.getElem?_eq_some_iff.1 hi).1
        rw [hlen] at hil
        rcases Nat.lt_or_ge i ts.length with hip | hip
        · rw [o2 _ (by simp; omega)]
          rw [List.getElem?_append_left hip] at hi
          exact hcur i x hi
        · obtain rfl := hsp2 i x hip hi
          have := n2 (by simp; omega) 0 (by simp)
          rw [Nat.add_zero] at this
          rw [show off + i = off + ts.length by omega, this]; rfl
    · have hge := grownCap_ge wa (ts.length + 1) cap 3
      have hcm2 : grownCap wa (ts.length + 1) cap 3 ≤ 9223372036854775807 := by have := grownCap_le_maxLen wa (ts.length + 1) cap 3 (by unfold maxLen; omega); unfold maxLen at this; omega
      by_cases hpn : p < ts.length
      · refine (Any2.slices_Insert_int_grow Try.laysIns g off ts.length cap p w.heap.size 0 1 1 (tsC ts) [Value.int .i64 ((now : Nat) : Int)] wa hpn (by omega) hlc (by omega) (by omega) (tsC_len ts) rfl hcs hvs (tsC_one ts) h1v).mono ?_
        rintro e w' ⟨rfl, rfl⟩
        obtain ⟨G, hG⟩ : ∃ G, grownCap wa (ts.length + 1) cap 3 = G := ⟨_, rfl⟩
        show InsTo w _ (ts ++ [now]) (.returned (.slice (some ⟨wa.heap.size, 0, none⟩) (ts.length + 1) (grownCap wa (ts.length + 1) cap 3))) ((((wa.alloc (.cells (((tsC ts).take p).toArray ++ Builtin.zeroCells (Value.int .i64 0).cells (ts.length + 1 - p) ++ Builtin.zeroCells (Value.int .i64 0).cells (grownCap wa (ts.length + 1) cap 3 - (ts.length + 1))) 3)).drew.setCells wa.heap.size p [Value.int .i64 ((now : Nat) : Int)]).drew).setCells wa.heap.size (p + 1) ((tsC ts).drop p))
        rw [hG] at hge hcm2 ⊢
        obtain ⟨c0, hc0⟩ : ∃ c0, ((tsC ts).take p).toArray ++ Builtin.zeroCells (Value.int .i64 0).cells (ts.length + 1 - p) ++ Builtin.zeroCells (Value.int .i64 0).cells (G - (ts.length + 1)) = c0 := ⟨_, rfl⟩
        have hz0 : c0.size = G := by
          rw [← hc0]
          simp only [Array.size_append, List.size_toArray, size_zeroCells, List.length_take, tsC_len]
          simp [Value.cells]
          omega
        have hfirst : ∀ j, j < p → c0[j]? = (tsC ts)[j]? := fun j hj => by
          rw [← hc0, Array.getElem?_append_left (by simp [tsC_len]; omega), Array.getElem?_append_left (by simp [tsC_len]; omega), List.getElem?_toArray, List.getElem?_take_of_lt hj]
        rw [hc0]
        have g0 : (wa.alloc (.cells c0 3)).drew.heap[wa.heap.size]? = some (.cells c0 3 (0, 0)) := heap_alloc_new wa _
        obtain ⟨c1, g1, z1, o1, n1⟩ := setCells_heap wa.heap.size [Value.int .i64 ((now : Nat) : Int)] p _ c0 _ _ g0
        obtain ⟨c2, g2, z2, o2, n2⟩ := setCells_heap wa.heap.size ((tsC ts).drop p) (p + 1) (((wa.alloc (.cells c0 3)).drew.setCells wa.heap.size p [Value.int .i64 ((now : Nat) : Int)]).drew) c1 _ _ g1
        have hdl : ((tsC ts).drop p).length = ts.length - p := by rw [List.length_drop, tsC_len]
        refine ⟨_, rfl, .inr ⟨wa.heap.size, 0, G, c2, by rw [hlen], g2, by omega, by omega, hcm2, fun i x hi => ?_⟩, fun q hq => ?_, ?_⟩
        · have hil := (List.getElem?_eq_some_iff.1 hi).1
          rw [hlen] at hil
          rw [Nat.zero_add]
          rcases Nat.lt_or_ge i p with hip | hip
          · rw [o2 _ (by omega), o1 _ (by omega), hfirst i hip]
            rw [List.getElem?_append_left (by omega)] at hi
            exact tsC_get hi
          · obtain rfl := hsp2 i x hip hi
            rcases Nat.eq_or_lt_of_le hip with rfl | hip2
            · rw [o2 _ (by omega)]
              have := n1 (by simp; omega) 0 (by simp)
              rw [Nat.add_zero] at this
              rw [this]; rfl
            · have := n2 (by omega) (i - (p + 1)) (by omega)
              rw [show p + 1 + (i - (p + 1)) = i by omega] at this
              rw [this, List.getElem?_drop, show p + (i - (p + 1)) = i - 1 by omega]
              obtain ⟨y, hy⟩ : ∃ y, ts[i - 1]? = some y := ⟨_, List.getElem?_eq_getElem (by omega)⟩
              rw [tsC_get hy, hsp (i - 1) y (by omega) hy]
        · obtain rfl : wa.heap.size = q := by injection hq
          exact .inr (by omega)
        · exact kp_setCells (F := fun q => Value.ownBlock (.slice (some ⟨g, off, none⟩) ts.length cap) = some q) wa.heap.size (.inr (by omega)) _ _ (kp_setCells (F := fun q => Value.ownBlock (.slice (some ⟨g, off, none⟩) ts.length cap) = some q) wa.heap.size (.inr (by omega)) _ _ (((hka.mono fun _ _ e => e.elim).alloc _).drew)).drew
      · obtain rfl : p = ts.length := by omega
        refine (Any2.slices_Insert_int_end_grow Try.laysIns (some ⟨g, off, none⟩) ts.length cap w.heap.size 0 1 1 (tsC ts) [Value.int .i64 ((now : Nat) : Int)] wa (by omega) hlc (by omega) (by omega) (tsC_len ts) rfl (fun e => by cases e) (fun a e j v hj => by
          obtain rfl := Option.some.inj e
          rw [Go.WideShapes.add_plain]
          exact hcs j v hj) hvs h1v).mono ?_
        rintro e w' hx
        have hx' : e = .returned (.slice (some ⟨wa.heap.size, 0, none⟩) (ts.length + 1) (grownCap wa (ts.length + 1) cap 3)) ∧ w' = wa.drew.alloc (.cells ((tsC ts ++ [Value.int .i64 ((now : Nat) : Int)] : List Value).toArray ++ Builtin.zeroCells (Value.int .i64 0).cells (grownCap wa (ts.length + 1) cap 3 - (ts.length + 1))) 3) := hx
        obtain ⟨rfl, rfl⟩ := hx'
        refine ⟨_, rfl, .inr ⟨wa.heap.size, 0, grownCap wa (ts.length + 1) cap 3, _, by rw [hlen], heap_alloc_new wa.drew _, by omega, ?_, hcm2, fun i x hi => ?_⟩, fun q hq => ?_, ((hka.mono fun _ _ e => e.elim).drew.alloc _)⟩
        · simp only [Array.size_append, List.size_toArray, size_zeroCells, List.length_append, tsC_len]
          simp [Value.cells]
          omega
        · have hil := (List.getElem?_eq_some_iff.1 hi).1
          rw [hlen] at hil
          rw [Nat.zero_add, Array.getElem?_append_left (by simp [tsC_len]; omega), List.getElem?_toArray]
          rcases Nat.lt_or_ge i ts.length with hip | hip
          · rw [List.getElem?_append_left (by rw [tsC_len]; exact hip)]
            rw [List.getElem?_append_left hip] at hi
            exact tsC_get hi
          · obtain rfl := hsp2 i x hip hi
            rw [List.getElem?_append_right (by rw [tsC_len]; exact hip), tsC_len, show i - ts.length = 0 by omega]
            rfl
        · obtain rfl : wa.heap.size = q := by injection hq
          exact .inr (by omega)
end
end Go.Proofs.Ytbdogiblndlimaa
