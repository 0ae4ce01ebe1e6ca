/- References given one after the other: a net beside a row of its watchers. -/
import Derived.Test.YtmfhmnlgffgcgaaLkLaw
namespace Go.Proofs.Ytmfhmnlgffgcgaa
open Go.RowKit Go.Maps
set_option linter.unusedVariables false

set_option maxHeartbeats 400000 in
theorem place_vast (w : World) (v n : Int) (_h1 : -9223372036854775808 ≤ v) (_h2 : v ≤ 9223372036854775807) (hn : 0 < n) (hn2 : n ≤ 17592186044416) :
    Calls Try.prog 7 #[.int .i64 v, .int .i64 n] w fun e w' => e = .returned (.int .i64 (v % n)) ∧ w = w' := by
  have HE := Lib.hid (place_emod v n hn)
  have h3 := Int.lt_tmod_of_pos v hn
  have h4 := Int.tmod_lt_of_pos v hn
  by_cases hneg : v.tmod n < 0
  · go_enter Try.func7, Try.ntmps7
    go_wp2_with fail
    go_ret
    exact ⟨by rw [HE.out.1 hneg]; rfl, rfl⟩
  · go_enter Try.func7, Try.ntmps7
    go_wp2_with fail
    go_ret
    exact ⟨by rw [HE.out.2 (by omega)]; rfl, rfl⟩
/-- the monitors that the row of watchers tells: who is not -1 -/
def lvs (L : List Int) : List Mo := (L.mapIdx fun j x => (⟨(j : Nat), x, 3⟩ : Mo)).filter fun m => decide (0 ≤ m.who)
section
variable {L : List Int} {k : Nat} {x : Int}
theorem lvs_push (hx : 0 ≤ x) : lvs (L ++ [x]) = lvs L ++ [⟨(L.length : Nat), x, 3⟩] := by
  unfold lvs
  rw [List.mapIdx_concat, List.filter_append]
  congr 1
  rw [List.filter_cons_of_pos (by simpa using hx)]
  rfl
theorem mem_lvs {m : Mo} : m ∈ lvs L ↔ ∃ j : Nat, L[j]? = some m.who ∧ 0 ≤ m.who ∧ m.ref = (j : Nat) ∧ m.whom = 3 := by
  unfold lvs
  rw [List.mem_filter, List.mem_mapIdx]
  constructor
  · rintro ⟨⟨j, hj, rfl⟩, h⟩
    exact ⟨j, List.getElem?_eq_getElem hj, by simpa using h, rfl, rfl⟩
  · rintro ⟨j, hj, h1, h2, h3⟩
    obtain ⟨h4, h5⟩ := List.getElem?_eq_some_iff.1 hj
    refine ⟨⟨j, h4, ?_⟩, by simpa using h1⟩
    rw [h5]
    cases m
    simp at h2 h3 ⊢
    exact ⟨h2.symm, h3.symm⟩
theorem lvs_of (hk : L[k]? = some x) (hx : 0 ≤ x) {next : Nat} (hok : MoOk next (lvs L)) : moOf (lvs L) (k : Nat) = some ⟨(k : Nat), x, 3⟩ :=
  moOf_mem hok (m := ⟨(k : Nat), x, 3⟩) (mem_lvs.2 ⟨k, hk, hx, rfl, rfl⟩)
theorem lvs_none (hk : L[k]? = some x) (hx : x < 0) : moOf (lvs L) (k : Nat) = none := by
  cases hf : moOf (lvs L) (k : Nat) with
  | none => rfl
  | some m =>
    obtain ⟨h1, h2⟩ := moOf_some hf
    obtain ⟨j, h3, h4, h5, -⟩ := mem_lvs.1 h1
    have : j = k := by omega
    subst this
    rw [hk] at h3
    have := Option.some.inj h3
    omega
theorem lvs_set (hk : L[k]? = some x) (hx : 0 ≤ x) : lvs (L.set k (-1)) = butRef (lvs L) (k : Nat) := by
  unfold lvs butRef
  rw [List.mapIdx_set, List.filter_filter]
  have hkl := (List.getElem?_eq_some_iff.1 hk).1
  obtain ⟨M, hM⟩ : ∃ M : List Mo, (L.mapIdx fun j x => (⟨(j : Nat), x, 3⟩ : Mo)) = M := ⟨_, rfl⟩
  have hr : ∀ (j : Nat) (m : Mo), M[j]? = some m → m.ref = (j : Nat) := by
    intro j m hm
    rw [← hM, List.getElem?_mapIdx] at hm
    cases hL : L[j]? with
    | none => rw [hL] at hm; cases hm
    | some y => rw [hL] at hm; cases hm; rfl
  rw [hM]
  have hkM : k < M.length := by rw [← hM]; simpa using hkl
  clear hM hk hkl hx
  have e : ∀ (M : List Mo) (k c : Nat), k < M.length → (∀ (j : Nat) (m : Mo), M[j]? = some m → m.ref = ((j + c : Nat) : Int)) →
      (M.set k ⟨((k + c : Nat) : Int), -1, 3⟩).filter (fun m => decide (0 ≤ m.who)) = M.filter (fun m => (!decide (m.ref = ((k + c : Nat) : Int))) && decide (0 ≤ m.who)) := by
    intro M
    induction M with
    | nil => intro k c h; simp at h
    | cons a M ih =>
      intro k c hlt hr
      have ha := hr 0 a rfl
      have hr' : ∀ (j : Nat) (m : Mo), M[j]? = some m → m.ref = ((j + (c + 1) : Nat) : Int) := fun j m hm => by
        have := hr (j + 1) m (by simpa using hm)
        rw [this]
        omega
      cases k with
      | zero =>
        rw [List.set_cons_zero, List.filter_cons_of_neg (by simp), List.filter_cons_of_neg (by rw [ha]; simp)]
        apply List.filter_congr
        intro m hm
        obtain ⟨j, hj, rfl⟩ := List.mem_iff_getElem.1 hm
        have := hr' j _ (List.getElem?_eq_getElem hj)
        have hne : ¬ M[j].ref = ((0 + c : Nat) : Int) := by omega
        rw [decide_eq_false hne, Bool.not_false, Bool.true_and]
      | succ k =>
        have ih := ih k (c + 1) (by simp at hlt; omega) hr'
        rw [show k + (c + 1) = k + 1 + c by omega] at ih
        rw [List.set_cons_succ]
        have hne : ¬ a.ref = ((k + 1 + c : Nat) : Int) := by omega
        by_cases h0 : 0 ≤ a.who
        · rw [List.filter_cons_of_pos (by simpa using h0), List.filter_cons_of_pos (by rw [decide_eq_false hne, decide_eq_true h0]; rfl), ih]
        · rw [List.filter_cons_of_neg (by simpa using h0), List.filter_cons_of_neg (by simp [h0]), ih]
  have := e M k 0 hkM (fun j m hm => by rw [hr j m hm]; rfl)
  rw [show k + 0 = k from rfl] at this
  rw [this]
theorem lvs_whom (L : List Int) : obs (lvs L) 3 = srt ((lvs L).map Mo.ref) := by
  unfold obs colOf byWhom
  rw [List.filter_map, List.map_map]
  congr 1
  have : (lvs L).filter ((fun p : Int × Int => decide (p.1 = 3)) ∘ fun m => (m.whom, m.ref)) = lvs L := by
    rw [List.filter_eq_self]
    intro m hm
    obtain ⟨j, -, -, -, h⟩ := mem_lvs.1 hm
    simpa using h
  rw [this]
  rfl
theorem lvs_obs_len (L : List Int) : (obs (lvs L) 3).length = (lvs L).length := by rw [lvs_whom, srt_len, List.length_map]
end

/-- a net beside the row of its watchers -/
structure Rf (w0 w : World) (b : Nat) (lv : Value) (ms : List Mo) (next : Nat) (L : List Int) : Prop where
  ns : NS w0 (fun q => lv.ownBlock = some q) w b [] ms next
  row : Lw w lv L
  new : ∀ g, lv.ownBlock = some g → w0.heap.size ≤ g
section
variable {w0 w w' : World} {b next : Nat} {lv : Value} {ms : List Mo} {L : List Int} {k : Nat} {x r : Int}
theorem Rf.same (h : Rf w0 w b lv ms next L) (hk : Kp (fun _ => False) w w') : Rf w0 w' b lv ms next L := ⟨h.ns.same hk, h.row.same hk, h.new⟩
theorem Rf.step {v : Value} {e : Ending} {ms' : List Mo} {next' : Nat} (h : Rf w0 w b lv ms next L) (ht : NsTo w0 (fun q => lv.ownBlock = some q) w b [] ms' next' v e w') : Rf w0 w' b lv ms' next' L :=
  ⟨ht.2.1, h.row.kp ht.2.2 (fun g hg e => e hg), h.new⟩
theorem Rf.push (h : Rf w0 w b lv ms next L) (hL : L.length + 1 ≤ 17592186044416) (x : Int) :
    ∃ g cap w', (Builtin.append_ #[32, 32] 32 #[lv, .slice (some ⟨w.heap.size, 0, none⟩) 1 1]).run Try.prog (w.alloc (.cells #[.int .i64 x] 2)) = .ok (.slice (some ⟨g, 0, none⟩) (L.length + 1) cap) w' ∧
      Rf w0 w' b (.slice (some ⟨g, 0, none⟩) (L.length + 1) cap) ms next (L ++ [x]) := by
  obtain ⟨g, cap, w', h1, h2, h3, h4, h5⟩ := longs_push h.row hL x
  have hz := h.ns.kp0.size
  refine ⟨g, cap, w', h1, h.ns.turn h3 (fun q hq => ⟨hq, h.new q hq⟩) (fun q hq => ?_), h2, fun q hq => ?_⟩
  · have : g = q := by injection hq
    subst this
    exact h4.imp id (fun e => ⟨e, h5⟩)
  · have : g = q := by injection hq
    subst this
    rcases h4 with h4 | h4
    · exact h.new g h4
    · omega
theorem Rf.set {g cap : Nat} (h : Rf w0 w b (.slice (some ⟨g, 0, none⟩) L.length cap) ms next L) (k : Nat) (x : Int) : Rf w0 (w.setCell ⟨g, k, none⟩ (.int .i64 x)) b (.slice (some ⟨g, 0, none⟩) L.length cap) ms next (L.set k x) := by
  obtain ⟨h1, h2⟩ := lk_row_set h.row k x
  exact ⟨h.ns.turn h2 (fun q hq => by subst hq; exact ⟨rfl, h.new _ rfl⟩) (fun q hq => .inl hq), h1, h.new⟩
end
end Go.Proofs.Ytmfhmnlgffgcgaa
