/- The document's own net: its rows, its pair, its sorting. -/
import Derived.Test.YtmfhmnlgffgcgaaLkLaw
import Derived.Test.YtmfhmnlgffgcgaaWideS
import Derived.Laws.StructEq
import Derived.BigRegion
namespace Go.Proofs.Ytmfhmnlgffgcgaa
open Go.RowKit
set_option linter.unusedVariables false

theorem Try.fieldsL : (Try.prog.fieldsOf 76).toList.map (fun f => (f.name, f.type, f.offset)) = [("A", 2, 0), ("B", 2, 1)] := by kernel_rfl
theorem Try.partL0 (w : World) (a b : Int) : (part 2 #[.int .i64 a, .int .i64 b] 0).run Try.prog w = .ok (.int .i64 a) w := by kernel_rfl
theorem Try.partL1 (w : World) (a b : Int) : (part 2 #[.int .i64 a, .int .i64 b] 1).run Try.prog w = .ok (.int .i64 b) w := by kernel_rfl
theorem Try.lkEqL (w : World) (a b c d : Int) : (binOp .eql 76 (.agg #[.int .i64 a, .int .i64 b]) (.agg #[.int .i64 c, .int .i64 d])).run Try.prog w = .ok (.bool (a == c && b == d)) w := by
  have hl : Try.prog.underlying 76 = some (.struct (Try.prog.fieldsOf 76)) := by kernel_rfl
  have hs : Try.prog.stoodInHeld 76 = false := by kernel_rfl
  rw [run_eql_struct, run_equalIn_struct w 9999 _ _ _ hl hs]
  have hf := Try.fieldsL
  generalize (Try.prog.fieldsOf 76).toList = fs at hf
  obtain ⟨f, g, rfl⟩ : ∃ f g, fs = [f, g] := by
    have := congrArg List.length hf
    simp at this
    obtain ⟨f, fs, rfl⟩ := List.exists_cons_of_length_eq_add_one this
    simp at this
    obtain ⟨g, fs, rfl⟩ := List.exists_cons_of_length_eq_add_one this
    simp at this
    subst this
    exact ⟨f, g, rfl⟩
  simp at hf
  obtain ⟨⟨h1, h2, h3⟩, h4, h5, h6⟩ := hf
  have n1 : ("A" : String) ≠ "_" := by decide
  have n2 : ("B" : String) ≠ "_" := by decide
  simp only [Op.eqFields, h1, h2, h3, h4, h5, h6]
  rw [if_pos n1, if_pos n2]
  simp only [Sem.run_bind, Try.partL0, Result.andThen_ok, run_equalIn_int (k' := .i64) _ _ _ _ _ _ Try.underlying2]
  cases h7 : (a == c) <;> simp [Result.andThen, Sem.run_bind, Try.partL1, run_equalIn_int (k' := .i64) _ _ _ _ _ _ Try.underlying2]
  by_cases h8 : b = d
  · simp [h8]
  · simp [h8]

section
variable {w w' : World} {b next : Nat} {v : Value} {l P C : List Int} {ls : List (Int × Int)} {ms : List Mo} {a c x : Int} {k : Nat}
set_option maxRecDepth 100000 in
set_option maxHeartbeats 1000000 in
theorem pair_any (w : World) (a c : Int) : Calls Try.prog 36 #[.int .i64 a, .int .i64 c] w fun e w' => e = .returned (.agg #[.int .i64 (lk a c).1, .int .i64 (lk a c).2]) ∧ Kp (fun _ => False) w w' := by
  have i0 : ∀ p q : Int, (w.alloc (.cells #[.int .i64 p, .int .i64 q] 76)).cell? ⟨w.heap.size, 0, none⟩ = some (.int .i64 p) := fun p q => by rw [cell_of_row _ _ 0 _ _ _ (heap_alloc_new w _)]; rfl
  have i1 : ∀ p q : Int, (w.alloc (.cells #[.int .i64 p, .int .i64 q] 76)).cell? ⟨w.heap.size, 1, none⟩ = some (.int .i64 q) := fun p q => by rw [cell_of_row _ _ 1 _ _ _ (heap_alloc_new w _)]; rfl
  unfold lk
  by_cases h : a < c
  · rw [if_pos h]
    go_enter Try.func36, Try.ntmps36
    go_wp2_with fail
    refine bodyPost_ret (v := .agg #[.int .i64 a, .int .i64 c]) (by simp [results, Try.results36, go_sem, i0, i1]) rfl ?_
    exact ⟨rfl, (Kp.refl (fun _ => False) w).alloc _⟩
  · rw [if_neg h]
    go_enter Try.func36, Try.ntmps36
    go_wp2_with fail
    refine bodyPost_ret (v := .agg #[.int .i64 c, .int .i64 a]) (by simp [results, Try.results36, go_sem, i0, i1]) rfl ?_
    exact ⟨rfl, (Kp.refl (fun _ => False) w).alloc _⟩
/-- a sorted row P with one more number x at place k, and the rest -/
def insAt (P C : List Int) (x : Int) (k : Nat) : List Int := P.take k ++ x :: (P.drop k ++ C)
theorem insAt_get (hk : k ≤ P.length) : (insAt P C x k)[k]? = some x := by
  unfold insAt
  rw [List.getElem?_append_right (by simp; omega)]
  simp [Nat.min_eq_left hk]
theorem insAt_prev {y : Int} (hk : k + 1 ≤ P.length) (hy : P[k]? = some y) : (insAt P C x (k + 1))[k]? = some y := by
  unfold insAt
  rw [List.getElem?_append_left (by simp; omega), List.getElem?_take_of_lt (by omega), hy]
theorem insAt_len : (insAt P C x k).length = P.length + 1 + C.length := by
  unfold insAt
  have : (P.take k).length + (P.drop k).length = P.length := by rw [← List.length_append, List.take_append_drop]
  simp only [List.length_append, List.length_cons]
  omega
theorem insAt_swap {y : Int} (hk : k + 1 ≤ P.length) (hy : P[k]? = some y) : ((insAt P C x (k + 1)).set (k + 1) y).set k x = insAt P C x k := by
  obtain ⟨hlt, hyy⟩ := List.getElem?_eq_some_iff.1 hy
  have e1 : P.take (k + 1) = P.take k ++ [y] := by rw [List.take_succ_eq_append_getElem hlt, hyy]
  have e2 : P.drop k = y :: P.drop (k + 1) := by rw [List.drop_eq_getElem_cons hlt, hyy]
  have hl : (P.take k).length = k := by simp; omega
  unfold insAt
  rw [e1, e2, List.append_assoc, List.singleton_append]
  rw [List.set_append_right _ _ (by omega), List.set_append_right _ _ (by omega), hl]
  rw [show k + 1 - k = 1 by omega, show k - k = 0 by omega]
  rfl
theorem insAt_end (hP : P.Pairwise (fun x y => x ≤ y)) (hk : k ≤ P.length) (h1 : ∀ y ∈ P.drop k, x < y) (h2 : k = 0 ∨ ∃ y, P[k - 1]? = some y ∧ ¬ x < y) : (P.take k ++ x :: P.drop k).Pairwise (fun x y => x ≤ y) := by
  rw [List.pairwise_append, List.pairwise_cons]
  have hle : ∀ y ∈ P.take k, y ≤ x := by
    intro y hy
    obtain ⟨j, hj, e⟩ := List.mem_iff_getElem.1 hy
    have hjk : j < k ∧ j < P.length := Nat.lt_min.1 (by simpa using hj)
    rcases h2 with h2 | ⟨z, hz, hzx⟩
    · omega
    · obtain ⟨hl, hzz⟩ := List.getElem?_eq_some_iff.1 hz
      have hyj : P[j] = y := by rw [← e, List.getElem_take]
      have : y ≤ z := by
        by_cases e3 : j = k - 1
        · subst e3
          rw [← hyj, ← hzz]
          exact Int.le_refl _
        · have := List.pairwise_iff_getElem.1 hP j (k - 1) hjk.2 hl (by omega)
          rw [hyj, hzz] at this
          exact this
      omega
  refine ⟨hP.sublist (List.take_sublist k P), ⟨fun y hy => Int.le_of_lt (h1 y hy), hP.sublist (List.drop_sublist k P)⟩, fun y hy z hz => ?_⟩
  rcases List.mem_cons.1 hz with rfl | hz
  · exact hle y hy
  · have := hle y hy
    have := h1 z hz
    omega
theorem insAt_perm : (insAt P C x k).Perm (P ++ x :: C) := by
  unfold insAt
  have h1 : (P.take k ++ x :: (P.drop k ++ C)).Perm (x :: (P.take k ++ (P.drop k ++ C))) := List.perm_middle
  rw [← List.append_assoc, List.take_append_drop] at h1
  exact h1.trans List.perm_middle.symm
theorem sorted_done (hP : P.Pairwise (fun x y => x ≤ y)) (hp : P.Perm l) : P = srt l := by
  rw [← srt_of_perm hp]
  exact (List.mergeSort_of_pairwise (hP.imp fun h => by simpa using h)).symm
set_option maxRecDepth 100000 in
set_option maxHeartbeats 4000000 in
theorem xsorted_any (h : Lw w v l) (hl : l.length ≤ 17592186044416) : Calls Try.prog 37 #[v] w fun e w' => e = .returned v ∧ Lw w' v (srt l) ∧ Kp (fun q => v.ownBlock = some q) w w' := by
  obtain ⟨po, cp, hv⟩ := h.form
  obtain ⟨N, hN⟩ : ∃ N, l.length = N := ⟨_, rfl⟩
  rw [hN] at hv hl
  subst hv
  have HS : Hid (∃ P C : List Int, P.length = 0 ∧ P.Pairwise (fun x y => x ≤ y) ∧ (P ++ C).Perm l ∧ Lw w (.slice po N cp) (P ++ C) ∧ Kp (fun q => Value.ownBlock (.slice po N cp) = some q) w w) := Lib.hid ⟨[], l, rfl, by simp, List.Perm.refl _, h, Kp.refl _ _⟩
  have hNi : (N : Int) ≤ 17592186044416 := by omega
  have HN := Lib.hid hN
  clear h hN
  go_enter Try.func37, Try.ntmps37
  go_wp2_with fail
  go_loopg [3, 4] N (fun gk s3 s4 wr => ∃ (i : Nat) (y4 : Value), i ≤ N ∧ gk = N - i ∧ s3 = .int .i64 (i : Nat) ∧ s4 = y4 ∧ Hid (∃ P C : List Int, P.length = i ∧ P.Pairwise (fun x y => x ≤ y) ∧ (P ++ C).Perm l ∧ Lw wr (.slice po N cp) (P ++ C) ∧ Kp (fun q => Value.ownBlock (.slice po N cp) = some q) w wr))
  case atStart => exact ⟨0, _, by omega, rfl, rfl, rfl, HS⟩
  case round =>
    obtain ⟨i, y4, hi, rfl, rfl, rfl, HR⟩ := hrel
    clear HS
    obtain ⟨P, C, hP, hs, hp, hR, hK⟩ := HR.out
    have hlen : P.length + C.length = N := by rw [← HN.out, ← hp.length_eq, List.length_append]
    by_cases hlt : i < N
    · have hli : (i : Int) < N := by omega
      obtain ⟨x, D, rfl⟩ : ∃ x D, C = x :: D := by
        cases C with
        | nil => simp at hlen; omega
        | cons x D => exact ⟨x, D, rfl⟩
      have HI : Hid (Lw wr (.slice po N cp) (insAt P D x i) ∧ Kp (fun q => Value.ownBlock (.slice po N cp) = some q) w wr) := Lib.hid ⟨by unfold insAt; rw [← hP, List.take_length, List.drop_length]; exact hR, hK⟩
      have HQ := Lib.hid (And.intro hP (And.intro hs (And.intro hp hlen)))
      clear hP hs hp hR hK hlen HR
      go_wp2_with fail
      go_loopg [4] i (fun gk s4 wr => ∃ (k : Nat), k ≤ i ∧ gk = k ∧ s4 = .int .i64 (k : Nat) ∧ Hid ((∀ y ∈ P.drop k, x < y) ∧ Lw wr (.slice po N cp) (insAt P D x k) ∧ Kp (fun q => Value.ownBlock (.slice po N cp) = some q) w wr))
      case atStart => exact ⟨i, Nat.le_refl _, rfl, rfl, Lib.hid ⟨by rw [← HQ.out.1, List.drop_length]; simp, HI.out⟩⟩
      case round =>
        obtain ⟨k, hk, hgk, rfl, HX⟩ := hrel
        obtain rfl := hgk.symm
        clear HI
        rcases k with _ | m
        · -- the beginning
          have HF : Hid (∃ P C : List Int, P.length = i + 1 ∧ P.Pairwise (fun x y => x ≤ y) ∧ (P ++ C).Perm l ∧ Lw wr.drew (.slice po N cp) (P ++ C) ∧ Kp (fun q => Value.ownBlock (.slice po N cp) = some q) w wr.drew) := by
            obtain ⟨hP, hs, hp, hlen⟩ := HQ.out
            obtain ⟨h1, h2, h3⟩ := HX.out
            refine Lib.hid ⟨P.take 0 ++ x :: P.drop 0, D, ?_, insAt_end hs (by omega) h1 (.inl rfl), ?_, ?_, h3.drew⟩
            · have : (P.take 0).length + (P.drop 0).length = P.length := by rw [← List.length_append, List.take_append_drop]
              simp only [List.length_append, List.length_cons]
              omega
            · have : (P.take 0 ++ x :: P.drop 0 ++ D) = insAt P D x 0 := by unfold insAt; simp
              rw [this]
              exact insAt_perm.trans hp
            · have : (P.take 0 ++ x :: P.drop 0 ++ D) = insAt P D x 0 := by unfold insAt; simp
              rw [this]
              exact h2.same (Kp.refl _ wr).drew
          clear HX
          go_wp2_with fail
          go_region
          go_wp2_with fail
          go_roundg (N - (i + 1))
          case measure => omega
          case rel => exact ⟨i + 1, _, by omega, rfl, by go_num, rfl, HF⟩
        · obtain ⟨y, hy⟩ : ∃ y, P[m]? = some y := ⟨_, List.getElem?_eq_getElem (by have := HQ.out.1; omega)⟩
          obtain ⟨g, cap, eg, q1, q2, q3⟩ := HX.out.2.1.get (insAt_get (P := P) (C := D) (x := x) (k := m + 1) (by have := HQ.out.1; omega))
          obtain ⟨g2, cap2, eg2, -, -, q4⟩ := HX.out.2.1.get (insAt_prev (P := P) (C := D) (x := x) (k := m) (by have := HQ.out.1; omega) hy)
          have hil : (insAt P D x (m + 1)).length = N := by rw [insAt_len]; have := HQ.out.2.2.2; simp at this; omega
          rw [hil] at eg eg2 q1
          obtain ⟨rfl, rfl⟩ : po = some ⟨g, 0, none⟩ ∧ cp = cap := by
            injection eg with eg1 _ eg3
            exact ⟨eg1, eg3⟩
          obtain rfl : g = g2 := by
            injection eg2 with eg2
            injection eg2 with eg2
            injection eg2 with eg2
          have hfz := lk_row_fz HX.out.2.1
          have hm1 : (m : Int) + 1 < N := by omega
          have hm2 : (m : Int) < N := by omega
          have hm0 : (0 : Int) < (m : Int) + 1 := by omega
          by_cases hxy : x < y
          · have HF : Hid ((∀ y ∈ P.drop m, x < y) ∧ Lw ((wr.setCell ⟨g, m + 1, none⟩ (.int .i64 y)).setCell ⟨g, m, none⟩ (.int .i64 x)).drew.drew (.slice (some ⟨g, 0, none⟩) N cp) (insAt P D x m) ∧ Kp (fun q => Value.ownBlock (.slice (some ⟨g, 0, none⟩) N cp) = some q) w ((wr.setCell ⟨g, m + 1, none⟩ (.int .i64 y)).setCell ⟨g, m, none⟩ (.int .i64 x)).drew.drew) := by
              obtain ⟨h1, h2, h3⟩ := HX.out
              obtain ⟨hlt2, hyy⟩ := List.getElem?_eq_some_iff.1 hy
              rw [← hil] at h2
              obtain ⟨r1, k1⟩ := lk_row_set h2 (m + 1) y
              have e1 : (insAt P D x (m + 1)).length = ((insAt P D x (m + 1)).set (m + 1) y).length := by rw [List.length_set]
              rw [e1] at r1
              obtain ⟨r2, k2⟩ := lk_row_set r1 m x
              rw [insAt_swap (by omega) hy, ← e1, hil] at r2
              refine Lib.hid ⟨fun z hz => ?_, r2.same (Kp.refl _ _).drew.drew, (h3.trans' ((k1.mono fun _ _ e => by rw [e]; rfl).trans' (k2.mono fun _ _ e => by rw [e]; rfl))).drew.drew⟩
              rw [List.drop_eq_getElem_cons hlt2, hyy] at hz
              rcases List.mem_cons.1 hz with rfl | hz
              · exact hxy
              · exact h1 z hz
            clear HX hy eg eg2 q1 hil
            go_wp2_with fail
            go_region
            go_wp2_with fail
            go_region
            go_wp2_with fail
            go_roundg m
            case measure => omega
            case rel => exact ⟨m, by omega, rfl, by go_num, HF⟩
          · have H2 := Lib.hid (show m + 1 = 0 ∨ ∃ y, P[m + 1 - 1]? = some y ∧ ¬ x < y from .inr ⟨y, hy, hxy⟩)
            have HF : Hid (∃ P C : List Int, P.length = i + 1 ∧ P.Pairwise (fun x y => x ≤ y) ∧ (P ++ C).Perm l ∧ Lw wr.drew (.slice (some ⟨g, 0, none⟩) N cp) (P ++ C) ∧ Kp (fun q => Value.ownBlock (.slice (some ⟨g, 0, none⟩) N cp) = some q) w wr.drew) := by
              obtain ⟨hP, hs, hp, hlen⟩ := HQ.out
              obtain ⟨h1, h2, h3⟩ := HX.out
              refine Lib.hid ⟨P.take (m + 1) ++ x :: P.drop (m + 1), D, ?_, insAt_end hs (by omega) h1 H2.out, ?_, ?_, h3.drew⟩
              · have : (P.take (m + 1)).length + (P.drop (m + 1)).length = P.length := by rw [← List.length_append, List.take_append_drop]
                simp only [List.length_append, List.length_cons]
                omega
              · have : (P.take (m + 1) ++ x :: P.drop (m + 1) ++ D) = insAt P D x (m + 1) := by unfold insAt; simp
                rw [this]
                exact insAt_perm.trans hp
              · have : (P.take (m + 1) ++ x :: P.drop (m + 1) ++ D) = insAt P D x (m + 1) := by unfold insAt; simp
                rw [this]
                exact h2.same (Kp.refl _ wr).drew
            clear HX hy eg eg2 q1 hil
            go_wp2_with fail
            go_region
            go_wp2_with fail
            go_roundg (N - (i + 1))
            case measure => omega
            case rel => exact ⟨i + 1, _, by omega, rfl, by go_num, rfl, HF⟩
    · obtain rfl : i = N := by omega
      have HF : Hid (Lw wr (.slice po i cp) (srt l) ∧ Kp (fun q => Value.ownBlock (.slice po i cp) = some q) w wr) := by
        have hC : C = [] := List.eq_nil_of_length_eq_zero (by omega)
        subst hC
        rw [List.append_nil] at hp hR
        rw [sorted_done hs hp] at hR
        exact Lib.hid ⟨hR, hK⟩
      clear hP hs hp hR hK hlen HR
      go_wp2_with fail
      go_ret
      exact ⟨rfl, HF.out⟩
end
end Go.Proofs.Ytmfhmnlgffgcgaa
