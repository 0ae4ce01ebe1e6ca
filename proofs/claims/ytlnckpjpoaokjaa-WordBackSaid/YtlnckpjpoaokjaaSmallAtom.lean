/- word.Small of an atom. -/
import Derived.Test.YtlnckpjpoaokjaaSmall
import Derived.Test.YtlnckpjpoaokjaaBoth
namespace Go.Proofs.Ytlnckpjpoaokjaa
open Go.RowKit

theorem fits_atom {F : Nat → Prop} {w : World} {h : Nat} {T : Tm} {n : Int} {s : ByteArray} {x y z : Value} (hT : TermAt F w h T [.int .i64 2, .int .i64 n, .string s, x, y, z]) (hf : fitsB T = true) : 1 ≤ s.size ∧ s.size ≤ 255 := by
  cases h with
  | zero => exact hT.elim
  | succ h =>
    obtain ⟨k, n', s', it, re, bys⟩ := T
    obtain ⟨vi, vr, vb, e, _⟩ := hT
    simp only [List.cons.injEq, Value.int.injEq, Value.string.injEq, true_and] at e
    obtain ⟨rfl, _, rfl, _⟩ := e
    have hf : fitsK 2 n' s it re bys = true := hf
    unfold fitsK at hf
    rw [if_neg (by decide), if_pos rfl] at hf
    by_cases hs : 1 ≤ s.size ∧ s.size ≤ 255
    · exact hs
    · rw [if_neg hs] at hf
      exact absurd hf (by decide)

set_option maxHeartbeats 400000 in
theorem small_atom {F G : Nat → Prop} {w : World} {h b : Nat} {T : Tm} {t : List ByteArray} {n : Int} {s : ByteArray} {a a2 a3 : Option Addr} {l c l2 d l3 e : Nat} (hT : TermAt F w h T [.int .i64 2, .int .i64 n, .string s, .slice a l c, .slice a2 l2 d, .slice a3 l3 e]) (hR : AtRep w G b t) (hl : t.length < 1024) :
    Calls Try.prog 29 #[.agg #[.int .i64 2, .int .i64 n, .string s, .slice a l c, .slice a2 l2 d, .slice a3 l3 e], .pointer (some ⟨b, 0, none⟩)] w fun e w' => ((∃ (i : Nat) (t' : List ByteArray) (G' : Nat → Prop), e = .returned (.tuple #[.int .u64 ((i : Int) * 8 % 18446744073709551616 + 1), .bool true, .nilIface]) ∧ fitsB T = true ∧ t'[i]? = some s ∧ ((t' = t) ∨ (s ∉ t ∧ t' = t ++ [s])) ∧ AtRep w' G' b t' ∧ (∀ q, G' q → G q ∨ w.heap.size ≤ q)) ∨ (SBad w e w' ∧ AtRep w' G b t)) ∧ Kp G w w' := by
  obtain ⟨w1, hw1⟩ : ∃ w1, (w.alloc (.cells #[.int .i64 2, .int .i64 n, .string s, .slice a l c, .slice a2 l2 d, .slice a3 l3 e] 60)) = w1 := ⟨_, rfl⟩
  have hk : Kp (fun _ => False) w w1 := by rw [← hw1]; exact ((Kp.refl _ w).alloc _)
  have hg : w1.heap[w.heap.size]? = some (.cells #[.int .i64 2, .int .i64 n, .string s, .slice a l c, .slice a2 l2 d, .slice a3 l3 e] 60 (0, 0)) := by
    rw [← hw1]
    exact heap_alloc_new w _
  have hr := tright_any (hT.kp hk (fun _ _ e => e))
  have hfa : fitsB T = true → 1 ≤ s.size ∧ s.size ≤ 255 := fits_atom hT
  have Hw := Lib.hid (And.intro hw1 (And.intro hr (And.intro hfa hR)))
  clear hw1 hr hfa hR
  go_enter Try.func29, Try.ntmps29
  go_wp2_with fail
  rw [Hw.out.1]
  refine Hw.out.2.1.mono ?_
  rintro e w3 ⟨⟨rfl, hf⟩ | ⟨v, m, kk, rfl, hch⟩, hk3⟩
  · have hg3 := (hk3.block _ (Array.getElem?_eq_some_iff.1 hg).1 (fun e => e)).trans hg
    have c0 : w3.cell? ⟨w.heap.size, 0, none⟩ = some (.int .i64 2) := by rw [cell_of_row w3 _ 0 _ _ _ hg3]; rfl
    have c1 : w3.cell? ⟨w.heap.size, 1, none⟩ = some (.int .i64 n) := by rw [cell_of_row w3 _ 1 _ _ _ hg3]; rfl
    have c2 : w3.cell? ⟨w.heap.size, 2, none⟩ = some (.string s) := by rw [cell_of_row w3 _ 2 _ _ _ hg3]; rfl
    have hk0' : Kp (fun _ => False) w w3 := hk.trans' hk3
    have hk0 : Kp (fun _ => False) w w3.drew := hk0'.drew
    have hR3 : AtRep w3.drew G b t := Hw.out.2.2.2.kp hk0 (fun _ _ e => e)
    have hsz := Hw.out.2.2.1 hf
    have hN : ∃ i : Nat, ∃ t', NumIs t s i [] t' ∧ t'[i]? = some s ∧ ((t' = t) ∨ (s ∉ t ∧ t' = t ++ [s])) := by
      by_cases hm : s ∈ t
      · obtain ⟨i, hi, e⟩ := List.mem_iff_getElem.1 hm
        have hi' : t[i]? = some s := by rw [List.getElem?_eq_getElem hi, e]
        exact ⟨i, t, .inr ⟨hsz.1, hsz.2, .inl ⟨i, hi', rfl, rfl, rfl⟩⟩, hi', .inl rfl⟩
      · exact ⟨t.length, t ++ [s], .inr ⟨hsz.1, hsz.2, .inr ⟨hm, .inr ⟨hl, rfl, rfl, rfl⟩⟩⟩, by simp, .inr ⟨hm, rfl⟩⟩
    obtain ⟨i, t', hNum, hi, ht'⟩ := hN
    have hnum := number_any hR3 s (Nat.le_trans hsz.2 (by decide)) hNum
    have Hh := Lib.hid (And.intro hg3 (And.intro hk0 (And.intro hf (And.intro hnum (And.intro hi ht')))))
    clear hg hg3 hk hk3 hf hk0 hk0' hR3 hNum hnum hi ht' hsz
    go_wp2_with fail
    go_region
    go_wp2_with fail
    refine Hh.out.2.2.2.1.mono ?_
    rintro e w4 ⟨v, rfl, hv, hR4, hk4⟩
    obtain rfl : v = .nilIface := hv
    have H4 := Lib.hid (And.intro hR4 hk4)
    clear hR4 hk4
    go_wp2_with fail
    refine bodyPost_ret (v := .tuple #[.int .u64 (bits BinOp.or IntKind.u64 (IntKind.u64.wrap (IntKind.u64.wrap (i : Int) * 8)) 1), .bool true, .nilIface]) (by simp [results, Try.results29, go_sem]) rfl ⟨.inl ⟨i, t', _, ?_, Hh.out.2.2.1, Hh.out.2.2.2.2.1, Hh.out.2.2.2.2.2, H4.out.1, ?_⟩, ?_⟩
    · rw [tagged i 1 (by omega) (by omega)]
    · rintro q (hq | hq)
      · exact .inl hq
      · exact .inr (Nat.le_trans Hh.out.2.1.size hq.1)
    · exact ((Hh.out.2.1.mono (fun _ _ e => e.elim)).trans' H4.out.2)
  · obtain ⟨gv, rfl⟩ := Chain.form (ChainB.out hch)
    have H3 := Lib.hid (And.intro (ChainB.le hk.size hch) (hk.trans' hk3))
    clear hch hk3 hk hg
    go_wp2_with (go_at_call 39; refine (at_any _ _ _ _ _).mono ?_; rintro e w' ⟨rfl, rfl⟩)
    go_ret3
    exact ⟨.inr ⟨⟨_, _, _, rfl, (ChainB.cons smallS 0 (ChainB.kp ((Kp.refl (fun _ => False) w3).alloc _) (fun _ e => e.elim) H3.out.1) H3.out.2.size (heap_alloc_new w3 _))⟩, Hw.out.2.2.2.kp (H3.out.2.alloc _) (fun _ _ e => e)⟩, (H3.out.2.alloc _).mono fun _ _ e => e.elim⟩
end Go.Proofs.Ytlnckpjpoaokjaa
