/- A table of processes in memory; what is wrong with a number; the first free slot. -/
import Derived.Test.YtdcmdidikengbaaTbKeys
import Derived.Test.YtdcmdidikengbaaWideS
import Derived.Test.YtdcmdidikengbaaEBad
import Derived.Test.YtdcmdidikengbaaOp
import Derived.Test.YtdcmdidikengbaaIs
namespace Go.Proofs.Ytdcmdidikengbaa
open Go.RowKit

def sgCells (sl : List Sg) : List Value := sl.flatMap fun s => [.int .i64 (s.pid : Nat), .bool s.on]
theorem sgCells_len (sl : List Sg) : (sgCells sl).length = sl.length * 2 := by
  induction sl with
  | nil => rfl
  | cons a l ih => simp [sgCells] at ih ⊢; omega
theorem sgCells_app (l m : List Sg) : sgCells (l ++ m) = sgCells l ++ sgCells m := by simp [sgCells]
theorem sgCells_one (sl : List Sg) : ∀ u ∈ sgCells sl, u.oneCell' = true := by
  intro u hu
  unfold sgCells at hu
  obtain ⟨t, _, ht⟩ := List.mem_flatMap.1 hu
  simp at ht
  rcases ht with rfl | rfl <;> rfl
theorem sgCells_get : ∀ (sl : List Sg) (i : Nat) (s : Sg), sl[i]? = some s → (sgCells sl)[i * 2]? = some (.int .i64 (s.pid : Nat)) ∧ (sgCells sl)[i * 2 + 1]? = some (.bool s.on)
  | [], i, s, h => by simp at h
  | a :: l, 0, s, h => by
    obtain rfl : a = s := by simpa using h
    exact ⟨rfl, rfl⟩
  | a :: l, i + 1, s, h => by
    have h1 := sgCells_get l i s (by simpa using h)
    have e : ∀ k, (sgCells (a :: l))[(i + 1) * 2 + k]? = (sgCells l)[i * 2 + k]? := by
      intro k
      show ([Value.int .i64 (a.pid : Nat), .bool a.on] ++ sgCells l)[(i + 1) * 2 + k]? = _
      rw [List.getElem?_append_right (by simp; omega)]
      congr 1
      simp
      omega
    exact ⟨(e 0).trans h1.1, (e 1).trans h1.2⟩

/-- a table at b: its map in block mb, its slots v -/
structure Tb (w : World) (b mb : Nat) (v : Value) (size B : Nat) (sl : List Sg) (ns : List Nm) : Prop where
  main : w.heap[b]? = some (.cells #[.int .i64 (size : Nat), v, .map (some mb)] 79 (0, 0))
  row : w.ownsS 82 2 v sl.length (sgCells sl)
  mp : Mn w mb ns
  ok : SlOk B sl
  fit : sl.length ≤ size
  size1 : 1 ≤ size
  size2 : size ≤ 64
  few : ns.length ≤ 64
  lens : ∀ n ∈ ns, 1 ≤ n.txt.size ∧ n.txt.size ≤ 255
  live : ∀ n ∈ ns, kindAt sl (n.pid : Nat) = 0

section
variable {F : Nat → Prop} {w w' : World} {b mb size B : Nat} {v : Value} {sl : List Sg} {ns : List Nm}
theorem Tb.facts (h : Tb w b mb v size B sl ns) : w.cell? ⟨b, 0, none⟩ = some (.int .i64 (size : Nat)) ∧ w.cell? ⟨b, 1, none⟩ = some v ∧ w.cell? ⟨b, 2, none⟩ = some (.map (some mb)) ∧ ∀ j, w.frozen? ⟨b, j, none⟩ = false :=
  ⟨by rw [cell_of_row w b 0 _ _ _ h.main]; rfl, by rw [cell_of_row w b 1 _ _ _ h.main]; rfl, by rw [cell_of_row w b 2 _ _ _ h.main]; rfl, fun j => by simp [World.frozen?, h.main]⟩
theorem Tb.kp (h : Tb w b mb v size B sl ns) (hk : Kp F w w') (hb : ¬ F b) (hm : ¬ F mb) (hv : ∀ g, v.ownBlock = some g → ¬ F g) : Tb w' b mb v size B sl ns :=
  ⟨(hk.block b (Array.getElem?_eq_some_iff.1 h.main).1 hb).trans h.main, hk.rowS h.row hv, h.mp.kp hk hm, h.ok, h.fit, h.size1, h.size2, h.few, h.lens, h.live⟩
theorem Tb.same (h : Tb w b mb v size B sl ns) (hk : Kp (fun _ => False) w w') : Tb w' b mb v size B sl ns := h.kp hk (fun e => e) (fun e => e) (fun _ _ e => e)
theorem Tb.ltb (h : Tb w b mb v size B sl ns) : b < w.heap.size := (Array.getElem?_eq_some_iff.1 h.main).1
theorem Tb.ltv (h : Tb w b mb v size B sl ns) : ∀ g, v.ownBlock = some g → g < w.heap.size := ownsS_lt h.row
theorem Tb.bne (h : Tb w b mb v size B sl ns) : b ≠ mb := by
  intro e
  obtain ⟨es, c, hm⟩ := h.mp.block
  have := h.main
  rw [e, hm] at this
  cases this
theorem Tb.vne (h : Tb w b mb v size B sl ns) : ∀ g, v.ownBlock = some g → g ≠ b ∧ g ≠ mb := by
  intro g hg
  rcases h.row.2 with ⟨e, _⟩ | ⟨g', cap, cur, e, hgg, _⟩
  · rw [e] at hg; cases hg
  · rw [e] at hg
    have e2 : g' = g := by injection hg
    subst e2
    refine ⟨fun e => ?_, fun e => ?_⟩
    · have h2 := h.main
      rw [← e, hgg] at h2
      injection h2 with h2
      injection h2 with _ h2
      exact absurd h2 (by decide)
    · obtain ⟨es, c, hm⟩ := h.mp.block
      rw [← e, hgg] at hm
      cases hm
/-- a slot that was given -/
theorem Tb.slot (h : Tb w b mb v size B sl ns) {i : Nat} {s : Sg} (hi : sl[i]? = some s) : ∃ g cap, v = .slice (some ⟨g, 0, none⟩) sl.length cap ∧ sl.length ≤ cap ∧ cap ≤ 9223372036854775807 ∧
    w.cell? ⟨g, i * 2, none⟩ = some (.int .i64 (s.pid : Nat)) ∧ w.cell? ⟨g, i * 2 + 1, none⟩ = some (.bool s.on) := by
  obtain ⟨q0, q1⟩ := sgCells_get sl i s hi
  obtain ⟨g, cap, e, h1, h2, h3⟩ := ownsS_get h.row _ _ q0
  obtain ⟨g', cap', e', _, _, h4⟩ := ownsS_get h.row _ _ q1
  rw [e] at e'
  injection e' with e1 _ e2
  injection e1 with e1
  injection e1 with e1
  subst e1
  exact ⟨g, cap, e, h1, h2, h3, h4⟩

/-- an error of a kind -/
def errV (k : Int) : Value := if k = 0 then .nilIface else .iface 39 (.int .i64 k)
theorem slotOf_any (p : Int) (w : World) : Calls Try.prog 39 #[.int .i64 p] w fun e w' => e = .returned (.int .i64 (slotAt p)) ∧ w = w' := by
  have e : max p 0 % 64 = slotAt p := by unfold slotAt; split <;> omega
  go_enter Try.func39, Try.ntmps39
  go_wp2_with fail
  go_ret
  exact ⟨congrArg (fun x => Ending.returned (.int .i64 x)) e, rfl⟩
set_option maxRecDepth 100000 in
set_option maxHeartbeats 2000000 in
/-- what is wrong with a number -/
theorem wrong_any (h : Tb w b mb v size B sl ns) (p : Int) : Calls Try.prog 38 #[.pointer (some ⟨b, 0, none⟩), .int .i64 p] w fun e w' => e = .returned (errV (kindAt sl p)) ∧ w = w' := by
  obtain ⟨-, c1, -, -⟩ := h.facts
  obtain ⟨po, cap, rfl, hcap, hcap2⟩ := ownsS_form h.row
  obtain ⟨k, hk⟩ : ∃ k : Nat, slotAt p = k := ⟨(slotAt p).toNat, by have := slotAt_range p; omega⟩
  have HS := slotOf_any p w
  rw [hk] at HS
  by_cases hp : p < 0
  · rw [kindAt_neg sl hp]
    clear h hk hcap hcap2 c1
    go_enter Try.func38, Try.ntmps38
    go_wp2_with (go_at_call 39; refine HS.mono ?_; rintro e w' ⟨rfl, rfl⟩)
    go_ret
    exact ⟨rfl, rfl⟩
  · by_cases hl : sl.length ≤ k
    · rw [kindAt_out sl (by omega)]
      obtain ⟨n, hn⟩ : ∃ n, sl.length = n := ⟨_, rfl⟩
      rw [hn] at c1 hcap hl
      have hl2 : (n : Int) ≤ k := by omega
      clear h hk hn
      go_enter Try.func38, Try.ntmps38
      go_wp2_with (go_at_call 39; refine HS.mono ?_; rintro e w' ⟨rfl, rfl⟩)
      go_ret
      exact ⟨rfl, rfl⟩
    · have hlt : k < sl.length := by omega
      obtain ⟨s, hs⟩ : ∃ s, sl[k]? = some s := ⟨_, List.getElem?_eq_getElem hlt⟩
      rw [kindAt_in hp (by rw [hk]; exact hs)]
      obtain ⟨g, cp, e1, -, -, d0, d1⟩ := h.slot hs
      obtain ⟨rfl, rfl⟩ : po = some ⟨g, 0, none⟩ ∧ cap = cp := by
        injection e1 with e1 _ e2
        exact ⟨e1, e2⟩
      obtain ⟨I, hI⟩ : ∃ I, s.pid = I := ⟨_, rfl⟩
      obtain ⟨O, hO⟩ : ∃ O, s.on = O := ⟨_, rfl⟩
      rw [hI] at d0 ⊢
      rw [hO] at d1 ⊢
      obtain ⟨n, hn⟩ : ∃ n, sl.length = n := ⟨_, rfl⟩
      rw [hn] at c1 hcap hlt hl
      have hl2 : ¬ (n : Int) ≤ k := by omega
      have hli : (k : Int) < n := by omega
      clear h hk hn hs hI hO e1 hl
      by_cases h1 : (I : Int) < p
      · rw [if_pos h1]
        go_enter Try.func38, Try.ntmps38
        go_wp2_with (go_at_call 39; refine HS.mono ?_; rintro e w' ⟨rfl, rfl⟩)
        go_ret
        exact ⟨rfl, rfl⟩
      · rw [if_neg h1]
        by_cases h2 : p < (I : Int)
        · rw [if_pos (.inl h2)]
          go_enter Try.func38, Try.ntmps38
          go_wp2_with (go_at_call 39; refine HS.mono ?_; rintro e w' ⟨rfl, rfl⟩)
          go_ret
          exact ⟨rfl, rfl⟩
        · cases O with
          | false =>
            rw [if_pos (.inr rfl)]
            go_enter Try.func38, Try.ntmps38
            go_wp2_with (go_at_call 39; refine HS.mono ?_; rintro e w' ⟨rfl, rfl⟩)
            go_ret
            exact ⟨rfl, rfl⟩
          | true =>
            rw [if_neg (by rintro (e | e); exact h2 e; cases e)]
            go_enter Try.func38, Try.ntmps38
            go_wp2_with (go_at_call 39; refine HS.mono ?_; rintro e w' ⟨rfl, rfl⟩)
            go_ret
            exact ⟨rfl, rfl⟩
end
end Go.Proofs.Ytdcmdidikengbaa
