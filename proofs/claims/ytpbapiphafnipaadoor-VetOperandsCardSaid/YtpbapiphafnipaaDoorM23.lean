/- What takes registers from one on. -/
import Derived.Test.YtpbapiphafnipaaDoorM22
/- What takes registers from one on. -/
namespace Go.Proofs.YtpbapiphafnipaaDoor
open Go.RowKit

/-- two functions in memory -/
theorem fns_two {w : World} {g : Nat} {fa : Int} {code : List In4} {po pq : Option Addr} {c d : Nat} (hb : w.heap[g]? = some (.cells #[.string ⟨#[102]⟩, .int .i64 0, .int .i64 0, .slice po code.length c, .string ⟨#[103]⟩, .int .i64 fa, .int .i64 0, .slice pq 1 d] 32 (0, 0))) (hf : 0 ≤ fa ∧ fa ≤ 8)
    (hc : CodeAt (fun q => q < w.heap.size) w code (.slice po code.length c)) (hd : CodeAt (fun q => q < w.heap.size) w [⟨15, 0, 0, 0⟩] (.slice pq 1 d)) : FnsAt (fun q => q < w.heap.size) w [fOf 0 0 code, gOf fa] (.slice (some ⟨g, 0, none⟩) 2 2) := by
  have z : isI64 0 := ⟨by decide, by decide⟩
  refine ⟨_, 2, rfl, by simp, by simp, fun i f hi => ?_⟩
  have hg := (Array.getElem?_eq_some_iff.1 hb).1
  rcases two_at hi with ⟨rfl, rfl⟩ | ⟨rfl, rfl⟩
  · exact ⟨g, 0, _, _, _, _, rfl, hg, (cell_of_row w _ 0 _ _ _ hb).trans rfl, (cell_of_row w _ 1 _ _ _ hb).trans rfl, (cell_of_row w _ 2 _ _ _ hb).trans rfl, (cell_of_row w _ 3 _ _ _ hb).trans rfl, _, rfl, z, z, by unfold maxLen; simp only [fOf]; decide, hc⟩
  · exact ⟨g, 0, _, _, _, _, rfl, hg, (cell_of_row w _ 4 _ _ _ hb).trans rfl, (cell_of_row w _ 5 _ _ _ hb).trans rfl, (cell_of_row w _ 6 _ _ _ hb).trans rfl, (cell_of_row w _ 7 _ _ _ hb).trans rfl, _, rfl, by unfold isI64; simp only [gOf]; omega, z, by unfold maxLen; simp only [gOf]; decide, hd⟩
theorem rowFns_12 (k : Nat) (a c fa : Int) : ∀ (i : Nat) (f : Fn4) (p : Nat) (x : In4), (rowFns k a c fa)[i]? = some f → f.code[p]? = some x → x.op ≠ 12 := by
  intro i f p x hi hx
  rcases two_at hi with ⟨rfl, rfl⟩ | ⟨rfl, rfl⟩
  · match p, hx with
    | 0, hx => cases hx; unfold rowIns; split <;> (try split) <;> simp
    | 1, hx => cases hx; simp
    | n + 2, hx => cases hx
  · match p, hx with
    | 0, hx => cases hx; simp
    | n + 1, hx => cases hx
theorem emod_nat (a : Int) (n : Nat) (hn : 0 < n) : ∃ k : Nat, a % n = k ∧ k < n := ⟨(a % n).toNat, by
  have := Int.emod_nonneg a (b := n) (by omega)
  omega, by
  have := Int.emod_nonneg a (b := n) (by omega)
  have := Int.emod_lt_of_pos a (b := n) (by omega)
  omega⟩
set_option maxRecDepth 100000 in
set_option maxHeartbeats 4000000 in
theorem rows_walk (a0 a1 a2 : Int) (w : World) (b1 : -9223372036854775808 ≤ a0) (b2 : a0 ≤ 9223372036854775807) (b3 : -9223372036854775808 ≤ a1) (b4 : a1 ≤ 9223372036854775807) (b5 : -9223372036854775808 ≤ a2) (b6 : a2 ≤ 9223372036854775807) (hg : Laid0 w) :
    Calls Tryd.prog 5 #[.int .i64 a0, .int .i64 a1, .int .i64 a2] w fun e w' => e = .returned (.bool true) ∧ Kp (fun _ => False) w w' := by
  have HG := Lib.hid hg
  have HI := Lib.hid (And.intro b1 (And.intro b2 (And.intro b3 (And.intro b4 (And.intro b5 b6)))))
  clear hg b1 b2 b3 b4 b5 b6
  go_enter Tryd.func5, Tryd.ntmps5
  go_wp2_with fail
  refine Calls.mono (vplace _ a2 3 HI.out.2.2.2.2.1 HI.out.2.2.2.2.2 (by omega) (by omega)) ?_
  rintro e w' ⟨k, rfl, hk, rfl⟩
  go_wp2_with fail
  refine Calls.mono (vplace _ a0 18 HI.out.1 HI.out.2.1 (by omega) (by omega)) ?_
  rintro e w' ⟨a, rfl, ha, rfl⟩
  go_wp2_with fail
  refine Calls.mono (vplace _ a1 17 HI.out.2.2.1 HI.out.2.2.2.1 (by omega) (by omega)) ?_
  rintro e w' ⟨c, rfl, hc, rfl⟩
  go_wp2_with fail
  refine Calls.mono (vplace _ a1 9 HI.out.2.2.1 HI.out.2.2.2.1 (by omega) (by omega)) ?_
  rintro e w' ⟨f, rfl, hf, rfl⟩
  obtain ⟨w1, hw1⟩ : ∃ w1, w.alloc (.cells #[.int .i64 2, .int .i64 0, .int .i64 a, .int .i64 c, .int .i64 16, .int .i64 0, .int .i64 1, .int .i64 a, .int .i64 37, .int .i64 0, .int .i64 a, .int .i64 0] 29) = w1 := ⟨_, rfl⟩
  have hz1 : w1.heap.size = w.heap.size + 1 := by rw [← hw1]; simp
  have hk1 : Kp (fun _ => False) w w1 := by rw [← hw1]; exact (Kp.refl _ w).alloc _
  have hb1 : w1.heap[w.heap.size]? = some (.cells #[.int .i64 2, .int .i64 0, .int .i64 a, .int .i64 c, .int .i64 16, .int .i64 0, .int .i64 1, .int .i64 a, .int .i64 37, .int .i64 0, .int .i64 a, .int .i64 0] 29 (0, 0)) := by rw [← hw1]; exact heap_alloc_new w _
  have hk3 : k = 0 ∨ k = 1 ∨ k = 2 := by omega
  rcases hk3 with rfl | rfl | rfl
  · have hri : rowIns 0 a c = ⟨2, 0, a, c⟩ := rfl
    have hrm : rowMany 0 c f = c := rfl
    have x0 : w1.cell? ⟨w.heap.size, 0, none⟩ = some (.int .i64 2) := by rw [cell_of_row w1 _ 0 _ _ _ hb1]; rfl
    have x1 : w1.cell? ⟨w.heap.size, 1, none⟩ = some (.int .i64 0) := by rw [cell_of_row w1 _ 1 _ _ _ hb1]; rfl
    have x2 : w1.cell? ⟨w.heap.size, 2, none⟩ = some (.int .i64 a) := by rw [cell_of_row w1 _ 2 _ _ _ hb1]; rfl
    have x3 : w1.cell? ⟨w.heap.size, 3, none⟩ = some (.int .i64 c) := by rw [cell_of_row w1 _ 3 _ _ _ hb1]; rfl
    obtain ⟨w2, hw2⟩ : ∃ w2, w1.alloc (.cells #[.int .i64 2, .int .i64 0, .int .i64 a, .int .i64 c] 29) = w2 := ⟨_, rfl⟩
    have hz2 : w2.heap.size = w1.heap.size + 1 := by rw [← hw2]; simp
    have hk2 : Kp (fun _ => False) w1 w2 := by rw [← hw2]; exact (Kp.refl _ w1).alloc _
    have hb2 : w2.heap[w1.heap.size]? = some (.cells #[.int .i64 2, .int .i64 0, .int .i64 a, .int .i64 c] 29 (0, 0)) := by rw [← hw2]; exact heap_alloc_new w1 _
    obtain ⟨w3, hw3⟩ : ∃ w3, w2.alloc (.cells #[.int .i64 c, .int .i64 f, .int .i64 3] 3) = w3 := ⟨_, rfl⟩
    have hz3 : w3.heap.size = w2.heap.size + 1 := by rw [← hw3]; simp
    have hk3 : Kp (fun _ => False) w2 w3 := by rw [← hw3]; exact (Kp.refl _ w2).alloc _
    have hb3 : w3.heap[w2.heap.size]? = some (.cells #[.int .i64 c, .int .i64 f, .int .i64 3] 3 (0, 0)) := by rw [← hw3]; exact heap_alloc_new w2 _
    have u3 : w3.cell? ⟨w2.heap.size, 0, none⟩ = some (.int .i64 c) := by rw [cell_of_row w3 _ 0 _ _ _ hb3]; rfl
    obtain ⟨v0, v1, v2, v3, vf⟩ := vfour_facts ((hk3.block _ (by omega) (fun e => e)).trans hb2)
    obtain ⟨w4, hw4⟩ : ∃ w4, w3.alloc (.cells #[.int .i64 2, .int .i64 0, .int .i64 a, .int .i64 c, .int .i64 15, .int .i64 0, .int .i64 0, .int .i64 0] 29) = w4 := ⟨_, rfl⟩
    have hz4 : w4.heap.size = w3.heap.size + 1 := by rw [← hw4]; simp
    have hk4 : Kp (fun _ => False) w3 w4 := by rw [← hw4]; exact (Kp.refl _ w3).alloc _
    have hb4 : w4.heap[w3.heap.size]? = some (.cells #[.int .i64 2, .int .i64 0, .int .i64 a, .int .i64 c, .int .i64 15, .int .i64 0, .int .i64 0, .int .i64 0] 29 (0, 0)) := by rw [← hw4]; exact heap_alloc_new w3 _
    obtain ⟨w5, hw5⟩ : ∃ w5, w4.alloc (.cells #[.int .i64 15, .int .i64 0, .int .i64 0, .int .i64 0] 29) = w5 := ⟨_, rfl⟩
    have hz5 : w5.heap.size = w4.heap.size + 1 := by rw [← hw5]; simp
    have hk5 : Kp (fun _ => False) w4 w5 := by rw [← hw5]; exact (Kp.refl _ w4).alloc _
    have hb5 : w5.heap[w4.heap.size]? = some (.cells #[.int .i64 15, .int .i64 0, .int .i64 0, .int .i64 0] 29 (0, 0)) := by rw [← hw5]; exact heap_alloc_new w4 _
    obtain ⟨w6, hw6⟩ : ∃ w6, w5.alloc (.cells #[.string ⟨#[102]⟩, .int .i64 0, .int .i64 0, .slice (some ⟨w3.heap.size, 0, none⟩) 2 2, .string ⟨#[103]⟩, .int .i64 f, .int .i64 0, .slice (some ⟨w4.heap.size, 0, none⟩) 1 1] 32) = w6 := ⟨_, rfl⟩
    have hz6 : w6.heap.size = w5.heap.size + 1 := by rw [← hw6]; simp
    have hk6 : Kp (fun _ => False) w5 w6 := by rw [← hw6]; exact (Kp.refl _ w5).alloc _
    have hb6 : w6.heap[w5.heap.size]? = some (.cells #[.string ⟨#[102]⟩, .int .i64 0, .int .i64 0, .slice (some ⟨w3.heap.size, 0, none⟩) 2 2, .string ⟨#[103]⟩, .int .i64 f, .int .i64 0, .slice (some ⟨w4.heap.size, 0, none⟩) 1 1] 32 (0, 0)) := by rw [← hw6]; exact heap_alloc_new w5 _
    obtain ⟨w7, hw7⟩ : ∃ w7, w6.alloc (.cells #[.string ⟨#[]⟩, .slice none 0 0, .slice (some ⟨w5.heap.size, 0, none⟩) 2 2] 26) = w7 := ⟨_, rfl⟩
    have hz7 : w7.heap.size = w6.heap.size + 1 := by rw [← hw7]; simp
    have hk7 : Kp (fun _ => False) w6 w7 := by rw [← hw7]; exact (Kp.refl _ w6).alloc _
    have hb7 : w7.heap[w6.heap.size]? = some (.cells #[.string ⟨#[]⟩, .slice none 0 0, .slice (some ⟨w5.heap.size, 0, none⟩) 2 2] 26 (0, 0)) := by rw [← hw7]; exact heap_alloc_new w6 _
    obtain ⟨t0, t1, t2⟩ := vthree_facts hb7
    have z : isI64 0 := ⟨by decide, by decide⟩
    have hcf : CodeAt (fun q => q < w4.heap.size) w4 [rowIns 0 a c, ⟨15, 0, 0, 0⟩] (.slice (some ⟨w3.heap.size, 0, none⟩) 2 2) := code_new (code := [rowIns 0 a c, ⟨15, 0, 0, 0⟩]) hb4 rfl (by simp) (by
      intro x hx
      rcases List.mem_cons.1 hx with rfl | hx
      · rw [hri]; exact wf4 (by omega) (by unfold isI64; omega) (by unfold isI64; omega) (by unfold isI64; omega)
      · rw [List.mem_singleton] at hx; subst hx; exact wf4 (by omega) z z z)
    have hcg : CodeAt (fun q => q < w5.heap.size) w5 [⟨15, 0, 0, 0⟩] (.slice (some ⟨w4.heap.size, 0, none⟩) 1 1) := code_new (code := [⟨15, 0, 0, 0⟩]) hb5 rfl (by simp) (by intro x hx; rw [List.mem_singleton] at hx; subst hx; exact wf4 (by omega) z z z)
    have hk47 := hk5.trans' (hk6.trans' hk7)
    have hk57 := hk6.trans' hk7
    have hfs := fns_two (w := w7) (fa := f) (code := [rowIns 0 a c, ⟨15, 0, 0, 0⟩]) ((hk7.block _ (by omega) (fun e => e)).trans hb6) (by omega) (hcf.imp (fun q e => by omega) (fun _ _ _ _ e => keeps_cell hk47 e)) (hcg.imp (fun q e => by omega) (fun _ _ _ _ e => keeps_cell hk57 e))
    have hk07 := hk1.trans' (hk2.trans' (hk3.trans' (hk4.trans' hk47)))
    have hg7 := laid0_kp HG.out hk07
    have HW := Lib.hid (whole_md (hh := 0) (fns := rowFns 0 a c f) lits_nil hfs (by simp) (by simp) (by simp [rowFns]) (by simp [rowFns]) (rowFns_12 _ _ _ _) hg7)
    have H7 := Lib.hid (And.intro hk07 hg7)
    clear hk1 hk2 hk3 hk4 hk5 hk6 hk7 hk47 hk57 hk07 hg7 hfs hcf hcg hb1 hb2 hb3 hb4 hb5 hb6 hb7 hz1 hz2 hz3 hz4 hz5 hz6 hz7
    go_wp2_with fail
    by_cases hok : (a : Int) < 16 ∧ (a : Int) + rowMany 0 c f ≤ 16
    · refine (module_nil HW.out (fun i g ls => two_right (head_f 0 0 [rowIns 0 a c, ⟨15, 0, 0, 0⟩] [gOf f] (by omega) (by omega) (by simp)) (head_g 0 a c f (by omega)) (fun p e h => row_good (by omega) (by omega) hok h) (fun p e h => row_good2 (k := 0) (a := a) (c := c) h) i g ls)).mono ?_
      rintro e w8 ⟨rfl, hk8⟩
      have H8 := Lib.hid (H7.out.1.trans' hk8)
      have HA := Lib.hid (vawake_any w8 (laid0_kp H7.out.2 hk8))
      rw [hrm] at hok
      have ha1 : (a : Int) < 16 := hok.1
      have ha2 : (a : Int) + c ≤ 16 := hok.2
      clear hk8 hok
      go_wp2_with fail
      refine HA.out.mono ?_
      rintro e w9 ⟨rfl, hk9⟩
      have H9 := Lib.hid (H8.out.trans' hk9)
      clear hk9
      go_wp2_with fail
      go_ret
      exact ⟨rfl, H9.out⟩
    · refine (module_wrong HW.out (fun h => (row_bad (k := 0) (a := (a : Int)) (c := (c : Int)) (fa := (f : Int)) (by omega) (by omega) hok).1 (h 0 _ rfl)) (fun i g ls => two_wrong (head_f 0 0 [rowIns 0 a c, ⟨15, 0, 0, 0⟩] [gOf f] (by omega) (by omega) (by simp)) (row_bad (k := 0) (a := (a : Int)) (c := (c : Int)) (fa := (f : Int)) (by omega) (by omega) hok).1 (row_bad (k := 0) (a := (a : Int)) (c := (c : Int)) (fa := (f : Int)) (by omega) (by omega) hok).2 i g ls)).mono ?_
      rintro e w8 ⟨v8, rfl, hch, hk8⟩
      have H8 := Lib.hid (And.intro (H7.out.1.trans' hk8) (And.intro hch.out (laid0_kp H7.out.2 hk8)))
      clear hch hk8
      simp only [id]
      rw [hrm] at hok
      have hor : ¬ (a : Int) < 16 ∨ (a : Int) < 16 ∧ ¬ (a : Int) + c ≤ 16 := by omega
      clear hok
      rcases hor with hbig | ⟨hsm, hbig⟩
      all_goals
        go_wp2_with fail
        refine (wrong_any 0 12 (by decide) _).mono ?_
        rintro e w9 ⟨v9, rfl, hch9, hk9⟩
        have HE := Lib.hid (err_any _ _ _ _ (by simp) (Chain.kp hk9 _ _ H8.out.2.1) hch9)
        have H9 := Lib.hid (And.intro (H8.out.1.trans' hk9) (laid0_kp H8.out.2.2 hk9))
        clear hch9 hk9
        go_wp2_with fail
        refine HE.out.mono ?_
        rintro e w10 ⟨rfl, hk10⟩
        have HA := Lib.hid (vawake_any w10 (laid0_kp H9.out.2 hk10))
        have H10 := Lib.hid (H9.out.1.trans' hk10)
        clear hk10
        go_wp2_with fail
        refine HA.out.mono ?_
        rintro e w11 ⟨rfl, hk11⟩
        have H11 := Lib.hid (H10.out.trans' hk11)
        clear hk11
        go_wp2_with fail
        go_ret
        exact ⟨rfl, H11.out⟩
  · have hri : rowIns 1 a c = ⟨16, 0, 1, a⟩ := rfl
    have hrm : rowMany 1 c f = f := rfl
    have x0 : w1.cell? ⟨w.heap.size, 4, none⟩ = some (.int .i64 16) := by rw [cell_of_row w1 _ 4 _ _ _ hb1]; rfl
    have x1 : w1.cell? ⟨w.heap.size, 5, none⟩ = some (.int .i64 0) := by rw [cell_of_row w1 _ 5 _ _ _ hb1]; rfl
    have x2 : w1.cell? ⟨w.heap.size, 6, none⟩ = some (.int .i64 1) := by rw [cell_of_row w1 _ 6 _ _ _ hb1]; rfl
    have x3 : w1.cell? ⟨w.heap.size, 7, none⟩ = some (.int .i64 a) := by rw [cell_of_row w1 _ 7 _ _ _ hb1]; rfl
    obtain ⟨w2, hw2⟩ : ∃ w2, w1.alloc (.cells #[.int .i64 16, .int .i64 0, .int .i64 1, .int .i64 a] 29) = w2 := ⟨_, rfl⟩
    have hz2 : w2.heap.size = w1.heap.size + 1 := by rw [← hw2]; simp
    have hk2 : Kp (fun _ => False) w1 w2 := by rw [← hw2]; exact (Kp.refl _ w1).alloc _
    have hb2 : w2.heap[w1.heap.size]? = some (.cells #[.int .i64 16, .int .i64 0, .int .i64 1, .int .i64 a] 29 (0, 0)) := by rw [← hw2]; exact heap_alloc_new w1 _
    obtain ⟨w3, hw3⟩ : ∃ w3, w2.alloc (.cells #[.int .i64 c, .int .i64 f, .int .i64 3] 3) = w3 := ⟨_, rfl⟩
    have hz3 : w3.heap.size = w2.heap.size + 1 := by rw [← hw3]; simp
    have hk3 : Kp (fun _ => False) w2 w3 := by rw [← hw3]; exact (Kp.refl _ w2).alloc _
    have hb3 : w3.heap[w2.heap.size]? = some (.cells #[.int .i64 c, .int .i64 f, .int .i64 3] 3 (0, 0)) := by rw [← hw3]; exact heap_alloc_new w2 _
    have u3 : w3.cell? ⟨w2.heap.size, 1, none⟩ = some (.int .i64 f) := by rw [cell_of_row w3 _ 1 _ _ _ hb3]; rfl
    obtain ⟨v0, v1, v2, v3, vf⟩ := vfour_facts ((hk3.block _ (by omega) (fun e => e)).trans hb2)
    obtain ⟨w4, hw4⟩ : ∃ w4, w3.alloc (.cells #[.int .i64 16, .int .i64 0, .int .i64 1, .int .i64 a, .int .i64 15, .int .i64 0, .int .i64 0, .int .i64 0] 29) = w4 := ⟨_, rfl⟩
    have hz4 : w4.heap.size = w3.heap.size + 1 := by rw [← hw4]; simp
    have hk4 : Kp (fun _ => False) w3 w4 := by rw [← hw4]; exact (Kp.refl _ w3).alloc _
    have hb4 : w4.heap[w3.heap.size]? = some (.cells #[.int .i64 16, .int .i64 0, .int .i64 1, .int .i64 a, .int .i64 15, .int .i64 0, .int .i64 0, .int .i64 0] 29 (0, 0)) := by rw [← hw4]; exact heap_alloc_new w3 _
    obtain ⟨w5, hw5⟩ : ∃ w5, w4.alloc (.cells #[.int .i64 15, .int .i64 0, .int .i64 0, .int .i64 0] 29) = w5 := ⟨_, rfl⟩
    have hz5 : w5.heap.size = w4.heap.size + 1 := by rw [← hw5]; simp
    have hk5 : Kp (fun _ => False) w4 w5 := by rw [← hw5]; exact (Kp.refl _ w4).alloc _
    have hb5 : w5.heap[w4.heap.size]? = some (.cells #[.int .i64 15, .int .i64 0, .int .i64 0, .int .i64 0] 29 (0, 0)) := by rw [← hw5]; exact heap_alloc_new w4 _
    obtain ⟨w6, hw6⟩ : ∃ w6, w5.alloc (.cells #[.string ⟨#[102]⟩, .int .i64 0, .int .i64 0, .slice (some ⟨w3.heap.size, 0, none⟩) 2 2, .string ⟨#[103]⟩, .int .i64 f, .int .i64 0, .slice (some ⟨w4.heap.size, 0, none⟩) 1 1] 32) = w6 := ⟨_, rfl⟩
    have hz6 : w6.heap.size = w5.heap.size + 1 := by rw [← hw6]; simp
    have hk6 : Kp (fun _ => False) w5 w6 := by rw [← hw6]; exact (Kp.refl _ w5).alloc _
    have hb6 : w6.heap[w5.heap.size]? = some (.cells #[.string ⟨#[102]⟩, .int .i64 0, .int .i64 0, .slice (some ⟨w3.heap.size, 0, none⟩) 2 2, .string ⟨#[103]⟩, .int .i64 f, .int .i64 0, .slice (some ⟨w4.heap.size, 0, none⟩) 1 1] 32 (0, 0)) := by rw [← hw6]; exact heap_alloc_new w5 _
    obtain ⟨w7, hw7⟩ : ∃ w7, w6.alloc (.cells #[.string ⟨#[]⟩, .slice none 0 0, .slice (some ⟨w5.heap.size, 0, none⟩) 2 2] 26) = w7 := ⟨_, rfl⟩
    have hz7 : w7.heap.size = w6.heap.size + 1 := by rw [← hw7]; simp
    have hk7 : Kp (fun _ => False) w6 w7 := by rw [← hw7]; exact (Kp.refl _ w6).alloc _
    have hb7 : w7.heap[w6.heap.size]? = some (.cells #[.string ⟨#[]⟩, .slice none 0 0, .slice (some ⟨w5.heap.size, 0, none⟩) 2 2] 26 (0, 0)) := by rw [← hw7]; exact heap_alloc_new w6 _
    obtain ⟨t0, t1, t2⟩ := vthree_facts hb7
    have z : isI64 0 := ⟨by decide, by decide⟩
    have hcf : CodeAt (fun q => q < w4.heap.size) w4 [rowIns 1 a c, ⟨15, 0, 0, 0⟩] (.slice (some ⟨w3.heap.size, 0, none⟩) 2 2) := code_new (code := [rowIns 1 a c, ⟨15, 0, 0, 0⟩]) hb4 rfl (by simp) (by
      intro x hx
      rcases List.mem_cons.1 hx with rfl | hx
      · rw [hri]; exact wf4 (by omega) (by unfold isI64; omega) (by unfold isI64; omega) (by unfold isI64; omega)
      · rw [List.mem_singleton] at hx; subst hx; exact wf4 (by omega) z z z)
    have hcg : CodeAt (fun q => q < w5.heap.size) w5 [⟨15, 0, 0, 0⟩] (.slice (some ⟨w4.heap.size, 0, none⟩) 1 1) := code_new (code := [⟨15, 0, 0, 0⟩]) hb5 rfl (by simp) (by intro x hx; rw [List.mem_singleton] at hx; subst hx; exact wf4 (by omega) z z z)
    have hk47 := hk5.trans' (hk6.trans' hk7)
    have hk57 := hk6.trans' hk7
    have hfs := fns_two (w := w7) (fa := f) (code := [rowIns 1 a c, ⟨15, 0, 0, 0⟩]) ((hk7.block _ (by omega) (fun e => e)).trans hb6) (by omega) (hcf.imp (fun q e => by omega) (fun _ _ _ _ e => keeps_cell hk47 e)) (hcg.imp (fun q e => by omega) (fun _ _ _ _ e => keeps_cell hk57 e))
    have hk07 := hk1.trans' (hk2.trans' (hk3.trans' (hk4.trans' hk47)))
    have hg7 := laid0_kp HG.out hk07
    have HW := Lib.hid (whole_md (hh := 0) (fns := rowFns 1 a c f) lits_nil hfs (by simp) (by simp) (by simp [rowFns]) (by simp [rowFns]) (rowFns_12 _ _ _ _) hg7)
    have H7 := Lib.hid (And.intro hk07 hg7)
    clear hk1 hk2 hk3 hk4 hk5 hk6 hk7 hk47 hk57 hk07 hg7 hfs hcf hcg hb1 hb2 hb3 hb4 hb5 hb6 hb7 hz1 hz2 hz3 hz4 hz5 hz6 hz7
    go_wp2_with fail
    by_cases hok : (a : Int) < 16 ∧ (a : Int) + rowMany 1 c f ≤ 16
    · refine (module_nil HW.out (fun i g ls => two_right (head_f 0 0 [rowIns 1 a c, ⟨15, 0, 0, 0⟩] [gOf f] (by omega) (by omega) (by simp)) (head_g 1 a c f (by omega)) (fun p e h => row_good (by omega) (by omega) hok h) (fun p e h => row_good2 (k := 1) (a := a) (c := c) h) i g ls)).mono ?_
      rintro e w8 ⟨rfl, hk8⟩
      have H8 := Lib.hid (H7.out.1.trans' hk8)
      have HA := Lib.hid (vawake_any w8 (laid0_kp H7.out.2 hk8))
      rw [hrm] at hok
      have ha1 : (a : Int) < 16 := hok.1
      have ha2 : (a : Int) + f ≤ 16 := hok.2
      clear hk8 hok
      go_wp2_with fail
      refine HA.out.mono ?_
      rintro e w9 ⟨rfl, hk9⟩
      have H9 := Lib.hid (H8.out.trans' hk9)
      clear hk9
      go_wp2_with fail
      go_ret
      exact ⟨rfl, H9.out⟩
    · refine (module_wrong HW.out (fun h => (row_bad (k := 1) (a := (a : Int)) (c := (c : Int)) (fa := (f : Int)) (by omega) (by omega) hok).1 (h 0 _ rfl)) (fun i g ls => two_wrong (head_f 0 0 [rowIns 1 a c, ⟨15, 0, 0, 0⟩] [gOf f] (by omega) (by omega) (by simp)) (row_bad (k := 1) (a := (a : Int)) (c := (c : Int)) (fa := (f : Int)) (by omega) (by omega) hok).1 (row_bad (k := 1) (a := (a : Int)) (c := (c : Int)) (fa := (f : Int)) (by omega) (by omega) hok).2 i g ls)).mono ?_
      rintro e w8 ⟨v8, rfl, hch, hk8⟩
      have H8 := Lib.hid (And.intro (H7.out.1.trans' hk8) (And.intro hch.out (laid0_kp H7.out.2 hk8)))
      clear hch hk8
      simp only [id]
      rw [hrm] at hok
      have hor : ¬ (a : Int) < 16 ∨ (a : Int) < 16 ∧ ¬ (a : Int) + f ≤ 16 := by omega
      clear hok
      rcases hor with hbig | ⟨hsm, hbig⟩
      all_goals
        go_wp2_with fail
        refine (wrong_any 0 12 (by decide) _).mono ?_
        rintro e w9 ⟨v9, rfl, hch9, hk9⟩
        have HE := Lib.hid (err_any _ _ _ _ (by simp) (Chain.kp hk9 _ _ H8.out.2.1) hch9)
        have H9 := Lib.hid (And.intro (H8.out.1.trans' hk9) (laid0_kp H8.out.2.2 hk9))
        clear hch9 hk9
        go_wp2_with fail
        refine HE.out.mono ?_
        rintro e w10 ⟨rfl, hk10⟩
        have HA := Lib.hid (vawake_any w10 (laid0_kp H9.out.2 hk10))
        have H10 := Lib.hid (H9.out.1.trans' hk10)
        clear hk10
        go_wp2_with fail
        refine HA.out.mono ?_
        rintro e w11 ⟨rfl, hk11⟩
        have H11 := Lib.hid (H10.out.trans' hk11)
        clear hk11
        go_wp2_with fail
        go_ret
        exact ⟨rfl, H11.out⟩
  · have hri : rowIns 2 a c = ⟨37, 0, a, 0⟩ := rfl
    have hrm : rowMany 2 c f = 3 := rfl
    have x0 : w1.cell? ⟨w.heap.size, 8, none⟩ = some (.int .i64 37) := by rw [cell_of_row w1 _ 8 _ _ _ hb1]; rfl
    have x1 : w1.cell? ⟨w.heap.size, 9, none⟩ = some (.int .i64 0) := by rw [cell_of_row w1 _ 9 _ _ _ hb1]; rfl
    have x2 : w1.cell? ⟨w.heap.size, 10, none⟩ = some (.int .i64 a) := by rw [cell_of_row w1 _ 10 _ _ _ hb1]; rfl
    have x3 : w1.cell? ⟨w.heap.size, 11, none⟩ = some (.int .i64 0) := by rw [cell_of_row w1 _ 11 _ _ _ hb1]; rfl
    obtain ⟨w2, hw2⟩ : ∃ w2, w1.alloc (.cells #[.int .i64 37, .int .i64 0, .int .i64 a, .int .i64 0] 29) = w2 := ⟨_, rfl⟩
    have hz2 : w2.heap.size = w1.heap.size + 1 := by rw [← hw2]; simp
    have hz2' := hz2
    have hk2 : Kp (fun _ => False) w1 w2 := by rw [← hw2]; exact (Kp.refl _ w1).alloc _
    have hb2 : w2.heap[w1.heap.size]? = some (.cells #[.int .i64 37, .int .i64 0, .int .i64 a, .int .i64 0] 29 (0, 0)) := by rw [← hw2]; exact heap_alloc_new w1 _
    obtain ⟨w3, hw3⟩ : ∃ w3, w2.alloc (.cells #[.int .i64 c, .int .i64 f, .int .i64 3] 3) = w3 := ⟨_, rfl⟩
    have hz3 : w3.heap.size = w2.heap.size + 1 := by rw [← hw3]; simp
    have hk3 : Kp (fun _ => False) w2 w3 := by rw [← hw3]; exact (Kp.refl _ w2).alloc _
    have hb3 : w3.heap[w2.heap.size]? = some (.cells #[.int .i64 c, .int .i64 f, .int .i64 3] 3 (0, 0)) := by rw [← hw3]; exact heap_alloc_new w2 _
    have u3 : w3.cell? ⟨w2.heap.size, 2, none⟩ = some (.int .i64 3) := by rw [cell_of_row w3 _ 2 _ _ _ hb3]; rfl
    obtain ⟨v0, v1, v2, v3, vf⟩ := vfour_facts ((hk3.block _ (by omega) (fun e => e)).trans hb2)
    obtain ⟨w4, hw4⟩ : ∃ w4, w3.alloc (.cells #[.int .i64 37, .int .i64 0, .int .i64 a, .int .i64 0, .int .i64 15, .int .i64 0, .int .i64 0, .int .i64 0] 29) = w4 := ⟨_, rfl⟩
    have hz4 : w4.heap.size = w3.heap.size + 1 := by rw [← hw4]; simp
    have hk4 : Kp (fun _ => False) w3 w4 := by rw [← hw4]; exact (Kp.refl _ w3).alloc _
    have hb4 : w4.heap[w3.heap.size]? = some (.cells #[.int .i64 37, .int .i64 0, .int .i64 a, .int .i64 0, .int .i64 15, .int .i64 0, .int .i64 0, .int .i64 0] 29 (0, 0)) := by rw [← hw4]; exact heap_alloc_new w3 _
    obtain ⟨w5, hw5⟩ : ∃ w5, w4.alloc (.cells #[.int .i64 15, .int .i64 0, .int .i64 0, .int .i64 0] 29) = w5 := ⟨_, rfl⟩
    have hz5 : w5.heap.size = w4.heap.size + 1 := by rw [← hw5]; simp
    have hk5 : Kp (fun _ => False) w4 w5 := by rw [← hw5]; exact (Kp.refl _ w4).alloc _
    have hb5 : w5.heap[w4.heap.size]? = some (.cells #[.int .i64 15, .int .i64 0, .int .i64 0, .int .i64 0] 29 (0, 0)) := by rw [← hw5]; exact heap_alloc_new w4 _
    obtain ⟨w6, hw6⟩ : ∃ w6, w5.alloc (.cells #[.string ⟨#[102]⟩, .int .i64 0, .int .i64 0, .slice (some ⟨w3.heap.size, 0, none⟩) 2 2, .string ⟨#[103]⟩, .int .i64 f, .int .i64 0, .slice (some ⟨w4.heap.size, 0, none⟩) 1 1] 32) = w6 := ⟨_, rfl⟩
    have hz6 : w6.heap.size = w5.heap.size + 1 := by rw [← hw6]; simp
    have hk6 : Kp (fun _ => False) w5 w6 := by rw [← hw6]; exact (Kp.refl _ w5).alloc _
    have hb6 : w6.heap[w5.heap.size]? = some (.cells #[.string ⟨#[102]⟩, .int .i64 0, .int .i64 0, .slice (some ⟨w3.heap.size, 0, none⟩) 2 2, .string ⟨#[103]⟩, .int .i64 f, .int .i64 0, .slice (some ⟨w4.heap.size, 0, none⟩) 1 1] 32 (0, 0)) := by rw [← hw6]; exact heap_alloc_new w5 _
    obtain ⟨w7, hw7⟩ : ∃ w7, w6.alloc (.cells #[.string ⟨#[]⟩, .slice none 0 0, .slice (some ⟨w5.heap.size, 0, none⟩) 2 2] 26) = w7 := ⟨_, rfl⟩
    have hz7 : w7.heap.size = w6.heap.size + 1 := by rw [← hw7]; simp
    have hk7 : Kp (fun _ => False) w6 w7 := by rw [← hw7]; exact (Kp.refl _ w6).alloc _
    have hb7 : w7.heap[w6.heap.size]? = some (.cells #[.string ⟨#[]⟩, .slice none 0 0, .slice (some ⟨w5.heap.size, 0, none⟩) 2 2] 26 (0, 0)) := by rw [← hw7]; exact heap_alloc_new w6 _
    obtain ⟨t0, t1, t2⟩ := vthree_facts hb7
    have z : isI64 0 := ⟨by decide, by decide⟩
    have hcf : CodeAt (fun q => q < w4.heap.size) w4 [rowIns 2 a c, ⟨15, 0, 0, 0⟩] (.slice (some ⟨w3.heap.size, 0, none⟩) 2 2) := code_new (code := [rowIns 2 a c, ⟨15, 0, 0, 0⟩]) hb4 rfl (by simp) (by
      intro x hx
      rcases List.mem_cons.1 hx with rfl | hx
      · rw [hri]; exact wf4 (by omega) (by unfold isI64; omega) (by unfold isI64; omega) (by unfold isI64; omega)
      · rw [List.mem_singleton] at hx; subst hx; exact wf4 (by omega) z z z)
    have hcg : CodeAt (fun q => q < w5.heap.size) w5 [⟨15, 0, 0, 0⟩] (.slice (some ⟨w4.heap.size, 0, none⟩) 1 1) := code_new (code := [⟨15, 0, 0, 0⟩]) hb5 rfl (by simp) (by intro x hx; rw [List.mem_singleton] at hx; subst hx; exact wf4 (by omega) z z z)
    have hk47 := hk5.trans' (hk6.trans' hk7)
    have hk57 := hk6.trans' hk7
    have hfs := fns_two (w := w7) (fa := f) (code := [rowIns 2 a c, ⟨15, 0, 0, 0⟩]) ((hk7.block _ (by omega) (fun e => e)).trans hb6) (by omega) (hcf.imp (fun q e => by omega) (fun _ _ _ _ e => keeps_cell hk47 e)) (hcg.imp (fun q e => by omega) (fun _ _ _ _ e => keeps_cell hk57 e))
    have hk07 := hk1.trans' (hk2.trans' (hk3.trans' (hk4.trans' hk47)))
    have hg7 := laid0_kp HG.out hk07
    have HW := Lib.hid (whole_md (hh := 0) (fns := rowFns 2 a c f) lits_nil hfs (by simp) (by simp) (by simp [rowFns]) (by simp [rowFns]) (rowFns_12 _ _ _ _) hg7)
    have H7 := Lib.hid (And.intro hk07 hg7)
    clear hk1 hk2 hk3 hk4 hk5 hk6 hk7 hk47 hk57 hk07 hg7 hfs hcf hcg hb1 hb2 hb3 hb4 hb5 hb6 hb7 hz1 hz2 hz3 hz4 hz5 hz6 hz7
    rw [hz2'] at u3
    rw [← hw2] at hw3
    have HW2 := Lib.hid hw2
    clear hw2 hz2'
    go_wp2_with fail
    by_cases hok : (a : Int) < 16 ∧ (a : Int) + rowMany 2 c f ≤ 16
    · refine (module_nil HW.out (fun i g ls => two_right (head_f 0 0 [rowIns 2 a c, ⟨15, 0, 0, 0⟩] [gOf f] (by omega) (by omega) (by simp)) (head_g 2 a c f (by omega)) (fun p e h => row_good (by omega) (by omega) hok h) (fun p e h => row_good2 (k := 2) (a := a) (c := c) h) i g ls)).mono ?_
      rintro e w8 ⟨rfl, hk8⟩
      have H8 := Lib.hid (H7.out.1.trans' hk8)
      have HA := Lib.hid (vawake_any w8 (laid0_kp H7.out.2 hk8))
      rw [hrm] at hok
      have ha1 : (a : Int) < 16 := hok.1
      have ha2 : (a : Int) + 3 ≤ 16 := hok.2
      clear hk8 hok
      go_wp2_with fail
      refine HA.out.mono ?_
      rintro e w9 ⟨rfl, hk9⟩
      have H9 := Lib.hid (H8.out.trans' hk9)
      clear hk9
      go_wp2_with fail
      go_ret
      exact ⟨rfl, H9.out⟩
    · refine (module_wrong HW.out (fun h => (row_bad (k := 2) (a := (a : Int)) (c := (c : Int)) (fa := (f : Int)) (by omega) (by omega) hok).1 (h 0 _ rfl)) (fun i g ls => two_wrong (head_f 0 0 [rowIns 2 a c, ⟨15, 0, 0, 0⟩] [gOf f] (by omega) (by omega) (by simp)) (row_bad (k := 2) (a := (a : Int)) (c := (c : Int)) (fa := (f : Int)) (by omega) (by omega) hok).1 (row_bad (k := 2) (a := (a : Int)) (c := (c : Int)) (fa := (f : Int)) (by omega) (by omega) hok).2 i g ls)).mono ?_
      rintro e w8 ⟨v8, rfl, hch, hk8⟩
      have H8 := Lib.hid (And.intro (H7.out.1.trans' hk8) (And.intro hch.out (laid0_kp H7.out.2 hk8)))
      clear hch hk8
      simp only [id]
      rw [hrm] at hok
      have hor : ¬ (a : Int) < 16 ∨ (a : Int) < 16 ∧ ¬ (a : Int) + 3 ≤ 16 := by omega
      clear hok
      rcases hor with hbig | ⟨hsm, hbig⟩
      all_goals
        go_wp2_with fail
        refine (wrong_any 0 12 (by decide) _).mono ?_
        rintro e w9 ⟨v9, rfl, hch9, hk9⟩
        have HE := Lib.hid (err_any _ _ _ _ (by simp) (Chain.kp hk9 _ _ H8.out.2.1) hch9)
        have H9 := Lib.hid (And.intro (H8.out.1.trans' hk9) (laid0_kp H8.out.2.2 hk9))
        clear hch9 hk9
        go_wp2_with fail
        refine HE.out.mono ?_
        rintro e w10 ⟨rfl, hk10⟩
        have HA := Lib.hid (vawake_any w10 (laid0_kp H9.out.2 hk10))
        have H10 := Lib.hid (H9.out.1.trans' hk10)
        clear hk10
        go_wp2_with fail
        refine HA.out.mono ?_
        rintro e w11 ⟨rfl, hk11⟩
        have H11 := Lib.hid (H10.out.trans' hk11)
        clear hk11
        go_wp2_with fail
        go_ret
        exact ⟨rfl, H11.out⟩
end Go.Proofs.YtpbapiphafnipaaDoor
