/- Numbers and words: Small of a great number; Plain of a number's word. -/
import Derived.Test.YtlnckpjpoaokjaaMark
namespace Go.Proofs.Ytlnckpjpoaokjaa
open Go.RowKit

set_option maxHeartbeats 400000 in
/-- a number that is not small has no word -/
theorem small_big (n : Int) (a : Value) (w : World) (h : n < -1152921504606846976 ∨ 1152921504606846975 < n) :
    Calls Try.prog 29 #[intT n, a] w fun e w' => e = .returned (.tuple #[.int .u64 0, .bool false, .nilIface]) ∧ Kp (fun _ => False) w w' := by
  obtain ⟨w1, hw1⟩ : ∃ w1, (w.alloc (.cells #[.int .i64 1, .int .i64 n, .string ByteArray.empty, .slice none 0 0, .slice none 0 0, .slice none 0 0] 60)) = w1 := ⟨_, rfl⟩
  have hk : Kp (fun _ => False) w w1 := by rw [← hw1]; exact ((Kp.refl _ w).alloc _)
  have hg : w1.heap[w.heap.size]? = some (.cells #[.int .i64 1, .int .i64 n, .string ByteArray.empty, .slice none 0 0, .slice none 0 0, .slice none 0 0] 60 (0, 0)) := by
    rw [← hw1]
    exact heap_alloc_new w _
  have Hw := Lib.hid hw1
  clear hw1
  unfold intT
  by_cases hn : n < -1152921504606846976
  · clear h
    go_enter Try.func29, Try.ntmps29
    go_wp2_with fail
    rw [Hw.out]
    refine (tright_int n w1).mono ?_
    rintro e w3 ⟨rfl, hk3⟩
    have hg3 := (hk3.block _ (Array.getElem?_eq_some_iff.1 hg).1 (fun e => e)).trans hg
    have c0 : w3.cell? ⟨w.heap.size, 0, none⟩ = some (.int .i64 1) := by rw [cell_of_row w3 _ 0 _ _ _ hg3]; rfl
    have c1 : w3.cell? ⟨w.heap.size, 1, none⟩ = some (.int .i64 n) := by rw [cell_of_row w3 _ 1 _ _ _ hg3]; rfl
    have Hh := Lib.hid (And.intro hg3 (And.intro hk hk3))
    clear hg hg3 hk hk3
    go_wp2_with fail
    go_region
    go_wp2_with fail
    go_ret3
    exact ⟨rfl, (Hh.out.2.1.trans' Hh.out.2.2).drew⟩
  · have hn2 : 1152921504606846975 < n := by omega
    clear h
    go_enter Try.func29, Try.ntmps29
    go_wp2_with fail
    rw [Hw.out]
    refine (tright_int n w1).mono ?_
    rintro e w3 ⟨rfl, hk3⟩
    have hg3 := (hk3.block _ (Array.getElem?_eq_some_iff.1 hg).1 (fun e => e)).trans hg
    have c0 : w3.cell? ⟨w.heap.size, 0, none⟩ = some (.int .i64 1) := by rw [cell_of_row w3 _ 0 _ _ _ hg3]; rfl
    have c1 : w3.cell? ⟨w.heap.size, 1, none⟩ = some (.int .i64 n) := by rw [cell_of_row w3 _ 1 _ _ _ hg3]; rfl
    have Hh := Lib.hid (And.intro hg3 (And.intro hk hk3))
    clear hg hg3 hk hk3
    go_wp2_with fail
    go_region
    go_wp2_with fail
    go_ret3
    exact ⟨rfl, (Hh.out.2.1.trans' Hh.out.2.2).drew⟩

set_option maxHeartbeats 400000 in
/-- a number's word is told as that number -/
theorem plain_num (x n : Int) (a : Value) (w : World) (h1 : -1152921504606846976 ≤ n) (h2 : n ≤ 1152921504606846975) (hx : x = n * 8 % 18446744073709551616) :
    Calls Try.prog 31 #[.int .u64 x, a] w fun e w' => e = .returned (.tuple #[intT n, .bool true, .nilIface]) ∧ Kp (fun _ => False) w w' := by
  have x0 : 0 ≤ x := by omega
  have x1 : x ≤ 18446744073709551615 := by omega
  have e1 : bits BinOp.and IntKind.u64 x 7 = 0 := by rw [and_low3 x x0 x1]; omega
  have e2 : IntKind.i64.wrap x = n * 8 := by rw [IntKind.wrap_i64]; omega
  have Hx := Lib.hid hx
  clear hx
  go_enter Try.func31, Try.ntmps31
  go_wp2_with fail
  refine bodyPost_ret (v := .tuple #[intT n, .bool true, .nilIface]) (by simp [results, Try.results31, go_sem]; rfl) rfl ⟨rfl, (Kp.refl _ w).alloc _⟩
end Go.Proofs.Ytlnckpjpoaokjaa
