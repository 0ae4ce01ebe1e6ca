/- binary: Handles. -/
import Derived.Test.YtlnckpjpoaokjaaInv5
import Derived.Test.YtlnckpjpoaokjaaIs
import Derived.Deep.LoopGhost
namespace Go.Proofs.Ytlnckpjpoaokjaa
open Go.RowKit

/-- the handles of those of the first k slots that are held -/
def heldN (l : List Sl) : Nat → List Int
  | 0 => []
  | k + 1 => heldN l k ++ (match l[k]? with | some s => if s.count = 0 then [] else [(k : Int) + 4096 * s.gen] | none => [])
def Bn.held (a : Bn) : List Int := heldN a.slots a.slots.length
theorem heldN_le (l : List Sl) : ∀ k, (heldN l k).length ≤ k
  | 0 => by simp [heldN]
  | k + 1 => by
    have := heldN_le l k
    rw [heldN, List.length_append]
    split
    · split <;> simp <;> omega
    · simp; omega
theorem heldN_some {l : List Sl} {k : Nat} {s : Sl} (hs : l[k]? = some s) (hc : 0 < s.count) : heldN l (k + 1) = heldN l k ++ [(k : Int) + 4096 * s.gen] := by
  rw [heldN, hs]
  simp only
  rw [if_neg (by omega)]
theorem heldN_none {l : List Sl} {k : Nat} {s : Sl} (hs : l[k]? = some s) (hc : s.count = 0) : heldN l (k + 1) = heldN l k := by
  rw [heldN, hs]
  simp only
  rw [if_pos hc, List.append_nil]

def ints (l : List Int) : List Value := l.map (Value.int .i64)
theorem ints_snoc (l : List Int) (n : Int) : ints (l ++ [n]) = ints l ++ [.int .i64 n] := by simp [ints]
theorem ints_len (l : List Int) : (ints l).length = l.length := by simp [ints]

section
variable {F G : Nat → Prop} {w w' : World} {b : Nat} {a : Bn} {ss fs : Value} {ps : List (Value × Value × Value)}

set_option maxRecDepth 100000 in
set_option maxHeartbeats 2000000 in
theorem handles_any (h : BRep F w b a ss fs ps) (hL : a.slots.length ≤ 4096) (hg : ∀ (i : Nat) (s : Sl), a.slots[i]? = some s → s.gen ≤ 1000000000000000) :
    Calls Try.prog 26 #[.pointer (some ⟨b, 0, none⟩)] w fun e w' => ∃ v, e = .returned v ∧ w'.ownsRow w.heap.size 3 1 v a.held.length (ints a.held) ∧ Kp (fun _ => False) w w' := by
  obtain ⟨_, _, _, c3, _, _⟩ := h.cells
  obtain ⟨pS, capS, hS⟩ := slice_form h.rs
  obtain ⟨L, hLe, hL1⟩ : ∃ L, a.slots.length = L ∧ L ≤ 4096 := ⟨_, rfl, hL⟩
  rw [hS, hLe] at c3
  have H := Lib.hid (And.intro h (And.intro hg hLe))
  clear h hg hL hLe hS
  go_enter Try.func26, Try.ntmps26
  go_wp2_with fail
  clear c3
  go_loopg [3, 13] L (fun gk v i wr => ∃ (k : Nat) (vs : Value), k ≤ L ∧ gk = L - k ∧ i = Value.int .i64 k ∧ vs = v ∧ wr.ownsRow w.heap.size 3 1 vs (heldN a.slots k).length (ints (heldN a.slots k)) ∧ Kp (fun _ => False) w wr)
  case atStart => exact ⟨0, _, by omega, rfl, rfl, rfl, World.ownsRow_nil _ _ _ _, Kp.refl _ w⟩
  case round =>
    obtain ⟨k, vs, hk, rfl, rfl, rfl, hrow, hK⟩ := hrel
    by_cases hlt : k < L
    · obtain ⟨s, hs⟩ : ∃ s, a.slots[k]? = some s := ⟨_, List.getElem?_eq_getElem (by have := H.out.2.2; omega)⟩
      have hgs := H.out.2.1 k s hs
      obtain ⟨q, hq, hq2⟩ : ∃ q, s.gen = q ∧ q ≤ 1000000000000000 := ⟨_, rfl, hgs⟩
      obtain ⟨n, hn, hn0, hnM⟩ : ∃ n : Int, (k : Int) + 4096 * q = n ∧ 0 ≤ n ∧ n ≤ 9223372036854775807 := ⟨_, rfl, by omega, by omega⟩
      have hB := H.out.1.kp hK (fun _ _ e => e)
      have hLL := H.out.2.2
      have hca : Calls Try.prog 47 #[.pointer (some ⟨b, 0, none⟩), .int .i64 k] wr fun e w' => e = .returned (.int .i64 n) ∧ ∃ j, w' = wr.drewN j := by
        have := handle_any hB hs (by omega) hgs
        rw [hq, hn] at this
        exact this
      have Hca := Lib.hid (And.intro hca (And.intro hs (And.intro hq (And.intro hn (And.intro hB (And.intro hrow hK))))))
      have hli : (k : Int) < L := by omega
      clear hca hs hgs hq hn hB hLL hrow hK
      go_wp2_with fail
      refine Hca.out.1.mono ?_
      rintro e w1 ⟨rfl, j, rfl⟩
      obtain ⟨_, hs, hq, hn, hB, hrow, hK⟩ := Hca.out
      have hB1 := hB.kp (Kp.drewN' (Kp.refl (fun _ => False) wr) j) (fun _ _ e => e)
      have hK1 := Kp.drewN' hK j
      have hrow1 : (wr.drewN j).ownsRow w.heap.size 3 1 vs (heldN a.slots k).length (ints (heldN a.slots k)) := hrow
      obtain ⟨w1, hw1⟩ : ∃ w1, wr.drewN j = w1 := ⟨_, rfl⟩
      rw [hw1] at hB1 hK1 hrow1
      have hLL := H.out.2.2
      by_cases hc : s.count = 0
      · have hbad : FBad a n 4 := .inr ⟨rfl, hn0, k, s, by omega, hs, .inr ⟨by omega, hc⟩⟩
        have Hx := Lib.hid (And.intro hB1 (And.intro hK1 (And.intro hbad (And.intro hrow1 (heldN_none hs hc)))))
        clear hs hq hn hB hrow hK hB1 hK1 hrow1 hc hbad hLL Hca
        go_wp2_with fail
        refine (find_bad Hx.out.1 (by have := H.out.2.2; omega) n 4 (by omega) hnM Hx.out.2.2.1).mono ?_
        rintro e w2 ⟨rfl, rfl⟩
        go_wp2_with fail
        refine (is_kind 4 4 _).mono ?_
        rintro e w2 ⟨rfl, rfl⟩
        go_wp2_with fail
        go_roundg (L - (k + 1))
        case measure => omega
        case rel => exact ⟨k + 1, _, by omega, rfl, by go_num, rfl, by rw [Hx.out.2.2.2.2]; exact Hx.out.2.2.2.1, Hx.out.2.1⟩
      · obtain ⟨g, cap, v, hv, _⟩ := hB1.slot hs
        have hlen := heldN_le a.slots k
        have hc1 : (heldN a.slots k).length + 1 ≤ maxLen := by unfold maxLen; omega
        have hc2 : ((heldN a.slots k).length + 1) * 8 ≤ 140737488355328 := by omega
        obtain ⟨hh, hhe⟩ : ∃ hh, (heldN a.slots k).length = hh := ⟨_, rfl⟩
        rw [hhe] at hc1 hc2 hrow1
        have hoA : ∀ o, (w1.alloc o).ownsRow w.heap.size 3 1 vs hh (ints (heldN a.slots k)) := fun o => hrow1.alloc o
        have hnA : ∀ i u, [Value.int .i64 n][i]? = some u → (w1.alloc (.cells #[Value.int .i64 n] 3)).cell? ((⟨w1.heap.size, 0, none⟩ : Addr).add i) = some u :=
          World.news_of_block (cs := #[Value.int .i64 n]) (heap_alloc_new w1 _)
        have hone : ∀ u ∈ [Value.int .i64 n], u.oneCell' = true := by intro u hu; simp at hu; subst hu; rfl
        obtain ⟨i0, hi, hz0, hz1, hz2⟩ := info_parts Try.infoInt
        have hbase : w.heap.size ≤ (w1.alloc (.cells #[Value.int .i64 n] 3)).heap.size := by have := hK1.size; simp; omega
        have Hx := Lib.hid (And.intro hB1 (And.intro hK1 (And.intro hs (And.intro hrow1 (And.intro (heldN_some hs (by omega)) (And.intro hc1 (And.intro hc2 (And.intro hv (And.intro hhe (And.intro hc (And.intro hq hn)))))))))))
        clear hs hq hn hB hrow hK hB1 hK1 hrow1 hc hLL Hca hc1 hc2 hv hhe hlen
        go_wp2_with fail
        refine (find_ok Hx.out.1 Hx.out.2.2.1 (by have := H.out.2.2; omega) (by have := Hx.out.2.2.2.2.2.2.2.2.2.1; omega) n hn0 hnM (by have := Hx.out.2.2.2.2.2.2.2.2.2.2; omega) (by have := Hx.out.2.2.2.2.2.2.2.2.2.2; omega) Hx.out.2.2.2.2.2.2.2.1).mono ?_
        rintro e w2 ⟨rfl, rfl⟩
        go_wp2_with fail
        refine (is_nil 4 _).mono ?_
        rintro e w2 ⟨rfl, rfl⟩
        go_wp2_with (at_builtin; refine wpList_append_lies _ rfl _ _ 34 rfl w.heap.size 3 i0 (.int .i64 0) 1 8 Try.underlying34 hi hz0 hz1 hz2 rfl (by omega) vs hh _ rfl (hoA _) ⟨w1.heap.size, 0, none⟩ 1 1 [.int .i64 n] rfl rfl hnA hone (by omega) Hx.out.2.2.2.2.2.1 Hx.out.2.2.2.2.2.2.1 hbase (w1.heap.size + 1) (by simp) ?_; intro g1 cap1 w3 hown hgrow hat hlt3; have Hy := Lib.hid (And.intro hown (And.intro hgrow (And.intro hat hlt3))); clear hown hgrow hat hlt3)
        have hfin : w3.ownsRow w.heap.size 3 1 (.slice (some ⟨g1, 0, none⟩) (hh + 1) cap1) (heldN a.slots (k + 1)).length (ints (heldN a.slots (k + 1))) ∧ Kp (fun _ => False) w w3 := by
          obtain ⟨hown, hgrow, hat, hlt3⟩ := Hy.out
          obtain ⟨_, hK1, _, hrow1, he, _, _, _, hhe, _, hq, hn⟩ := Hx.out
          refine ⟨?_, (hK1.alloc _).grown hgrow (fun q hq => .inr (hrow1.lt q hq).1)⟩
          rw [he, ints_snoc, List.length_append, hhe, hq, hn]
          exact hown
        have Hz := Lib.hid hfin
        clear hfin Hy hoA hnA hone hbase
        go_roundg (L - (k + 1))
        case measure => omega
        case rel => exact ⟨k + 1, _, by omega, rfl, by go_num, rfl, Hz.out.1, Hz.out.2⟩
    · obtain rfl : L = k := by omega
      have Hx := Lib.hid (And.intro hrow hK)
      clear hrow hK
      go_wp2_with fail
      go_ret
      refine ⟨_, rfl, ?_, Hx.out.2⟩
      have := Hx.out.1
      rw [← H.out.2.2] at this
      exact this
end
end Go.Proofs.Ytlnckpjpoaokjaa
