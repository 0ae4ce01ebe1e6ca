/- The document's own errors of a module: F, f, fun of trouperef01 and trouperef10. The reference's tables, and what it asks of an operand. Ranges of an operand. -/
import Derived.Test.YtpdepmkojbpklaaDoorM05
import Derived.Test.YtpdepmkojbpklaaDoorM20
import Derived.Test.YtpdepmkojbpklaaDoorM29
import Derived.Test.YtpdepmkojbpklaaDoorM33
/- The document's own errors of a module: F, f, fun of trouperef01 and trouperef10. -/
namespace Go.Proofs.YtpdepmkojbpklaaDoor
open Go.RowKit

theorem XCh.ptr {w : World} {v : Value} {a : Lk} {l : List Lk} (h : XCh w v (a :: l)) : ∃ g, v = .pointer (some ⟨g, 0, none⟩) := by
  rcases h with ⟨-, g, h, -⟩ | ⟨-, -, g, gi, h, -⟩ <;> exact ⟨g, h⟩
theorem XCh.cons {w : World} {po : Option Addr} {a : Lk} {l : List Lk} (h : XCh w (.pointer po) (a :: l)) (op : ByteArray) (n : Int) :
    XCh (w.alloc (.cells #[.string op, .int .i64 n, .pointer po, .int .i64 0] 94)) (.pointer (some ⟨w.heap.size, 0, none⟩)) (Lk.fault op n :: a :: l) := by
  obtain ⟨gi, e⟩ := h.ptr
  injection e with e
  subst e
  exact .inr ⟨rfl, by simp, w.heap.size, gi, rfl, heap_alloc_new w _, XCh.kp ((Kp.refl _ w).alloc _) _ _ h⟩
theorem xF_any (op : ByteArray) (n : Int) (po : Addr) (w : World) :
    Calls Tryd.prog 30 #[.string op, .int .i64 n, .pointer (some po)] w fun e' w' => e' = .returned (.pointer (some ⟨w.heap.size, 0, none⟩)) ∧ w' = w.alloc (.cells #[.string op, .int .i64 n, .pointer (some po), .int .i64 0] 94) := by
  go_enter Tryd.func30, Tryd.ntmps30
  go_wp2_with fail
  go_ret
  exact ⟨rfl, rfl⟩
theorem xf10_any (po : Addr) (w : World) :
    Calls Tryd.prog 27 #[.pointer (some po)] w fun e' w' => e' = .returned (.pointer (some ⟨w.heap.size, 0, none⟩)) ∧ w' = w.alloc (.cells #[.string modS, .int .i64 0, .pointer (some po), .int .i64 0] 94) := by
  go_enter Tryd.func27, Tryd.ntmps27
  go_wp2_with fail
  refine (xF_any _ _ _ _).mono ?_
  rintro e w1 ⟨rfl, rfl⟩
  go_wp2_with fail
  go_ret
  exact ⟨rfl, rfl⟩
theorem xfun_any (n : Int) (po : Addr) (w : World) :
    Calls Tryd.prog 31 #[.int .i64 n, .pointer (some po)] w fun e' w' => e' = .returned (.pointer (some ⟨w.heap.size + 1, 0, none⟩)) ∧ w' = (w.alloc (.cells #[.string fnS, .int .i64 n, .pointer (some po), .int .i64 0] 94)).alloc (.cells #[.string modS, .int .i64 0, .pointer (some ⟨w.heap.size, 0, none⟩), .int .i64 0] 94) := by
  go_enter Tryd.func31, Tryd.ntmps31
  go_wp2_with fail
  refine (xF_any _ _ _ _).mono ?_
  rintro e w1 ⟨rfl, hw1⟩
  go_wp2_with fail
  refine (xf10_any _ _).mono ?_
  rintro e w2 ⟨rfl, hw2⟩
  subst hw1
  subst hw2
  go_wp2_with fail
  go_ret
  exact ⟨by simp, rfl⟩

/-- the same with chains -/
theorem xk_ch (k : Int) (w : World) :
    Calls Tryd.prog 28 #[.int .i64 k] w fun e w' => ∃ g, e = .returned (.pointer (some ⟨g, 0, none⟩)) ∧ XCh w' (.pointer (some ⟨g, 0, none⟩)) [Lk.kind k] ∧ Kp (fun _ => False) w w' := by
  refine (k_any k w).mono ?_
  rintro e w1 ⟨rfl, rfl⟩
  exact ⟨_, rfl, .inl ⟨rfl, _, rfl, heap_alloc_new w _, rfl, rfl⟩, (Kp.refl _ w).alloc _⟩
theorem xF_ch (op : ByteArray) (n : Int) {g : Nat} {a : Lk} {l : List Lk} {w : World} (h : XCh w (.pointer (some ⟨g, 0, none⟩)) (a :: l)) :
    Calls Tryd.prog 30 #[.string op, .int .i64 n, .pointer (some ⟨g, 0, none⟩)] w fun e w' => ∃ g', e = .returned (.pointer (some ⟨g', 0, none⟩)) ∧ XCh w' (.pointer (some ⟨g', 0, none⟩)) (Lk.fault op n :: a :: l) ∧ Kp (fun _ => False) w w' := by
  refine (xF_any op n ⟨g, 0, none⟩ w).mono ?_
  rintro e w1 ⟨rfl, rfl⟩
  exact ⟨_, rfl, h.cons op n, (Kp.refl _ w).alloc _⟩
theorem xf10_ch {g : Nat} {a : Lk} {l : List Lk} {w : World} (h : XCh w (.pointer (some ⟨g, 0, none⟩)) (a :: l)) :
    Calls Tryd.prog 27 #[.pointer (some ⟨g, 0, none⟩)] w fun e w' => ∃ g', e = .returned (.pointer (some ⟨g', 0, none⟩)) ∧ XCh w' (.pointer (some ⟨g', 0, none⟩)) (Lk.fault modS 0 :: a :: l) ∧ Kp (fun _ => False) w w' := by
  refine (xf10_any _ w).mono ?_
  rintro e w1 ⟨rfl, rfl⟩
  exact ⟨_, rfl, h.cons modS 0, (Kp.refl _ w).alloc _⟩
theorem xfun_ch (n : Int) {g : Nat} {a : Lk} {l : List Lk} {w : World} (h : XCh w (.pointer (some ⟨g, 0, none⟩)) (a :: l)) :
    Calls Tryd.prog 31 #[.int .i64 n, .pointer (some ⟨g, 0, none⟩)] w fun e w' => ∃ g', e = .returned (.pointer (some ⟨g', 0, none⟩)) ∧ XCh w' (.pointer (some ⟨g', 0, none⟩)) (Lk.fault modS 0 :: Lk.fault fnS n :: a :: l) ∧ Kp (fun _ => False) w w' := by
  refine (xfun_any n _ w).mono ?_
  rintro e w1 ⟨rfl, rfl⟩
  refine ⟨_, rfl, ?_, ((Kp.refl _ w).alloc _).alloc _⟩
  have := (h.cons fnS n).cons modS 0
  simpa using this
/-- an error of whatever kind becomes an error -/
theorem xF_ptr (op : ByteArray) (n : Int) (po : Addr) (w : World) :
    Calls Tryd.prog 30 #[.string op, .int .i64 n, .pointer (some po)] w fun e w' => ∃ g, e = .returned (.pointer (some ⟨g, 0, none⟩)) ∧ Kp (fun _ => False) w w' :=
  (xF_any op n po w).mono fun _ _ h => ⟨_, h.1, by rw [h.2]; exact (Kp.refl _ w).alloc _⟩
theorem xf10_ptr (po : Addr) (w : World) :
    Calls Tryd.prog 27 #[.pointer (some po)] w fun e w' => ∃ g, e = .returned (.pointer (some ⟨g, 0, none⟩)) ∧ Kp (fun _ => False) w w' :=
  (xf10_any po w).mono fun _ _ h => ⟨_, h.1, by rw [h.2]; exact (Kp.refl _ w).alloc _⟩
end Go.Proofs.YtpdepmkojbpklaaDoor

/- The reference's tables, and what it asks of an operand. -/
namespace Go.Proofs.YtpdepmkojbpklaaDoor
open Go.RowKit

/-- how many arguments each function of bif takes, by the reference -/
def fsN : List Int := [2, 2, 2, 2, 2, 1, 2, 2, 2, 2, 2, 2, 2, 2, 1, 2, 3, 1, 1, 2, 1, 1, 2, 2, 1, 1, 1, 1, 1, 1, 1, 1, 1, 2, 3, 2, 1, 2, 1, 1]
def fsArr : Array Value := #[.string ⟨#[97, 100, 100]⟩, .int .i64 2, .string ⟨#[115, 117, 98]⟩, .int .i64 2, .string ⟨#[109, 117, 108]⟩, .int .i64 2, .string ⟨#[100, 105, 118]⟩, .int .i64 2, .string ⟨#[114, 101, 109]⟩, .int .i64 2, .string ⟨#[110, 101, 103]⟩, .int .i64 1, .string ⟨#[98, 97, 110, 100]⟩, .int .i64 2, .string ⟨#[98, 111, 114]⟩, .int .i64 2, .string ⟨#[98, 120, 111, 114]⟩, .int .i64 2, .string ⟨#[98, 115, 108]⟩, .int .i64 2, .string ⟨#[98, 115, 114]⟩, .int .i64 2, .string ⟨#[101, 113]⟩, .int .i64 2, .string ⟨#[108, 116]⟩, .int .i64 2, .string ⟨#[99, 111, 109, 112, 97, 114, 101]⟩, .int .i64 2, .string ⟨#[115, 105, 122, 101]⟩, .int .i64 1, .string ⟨#[101, 108, 101, 109, 101, 110, 116]⟩, .int .i64 2, .string ⟨#[115, 101, 116, 101, 108, 101, 109, 101, 110, 116]⟩, .int .i64 3, .string ⟨#[108, 105, 115, 116, 95, 116, 111, 95, 116, 117, 112, 108, 101]⟩, .int .i64 1, .string ⟨#[116, 117, 112, 108, 101, 95, 116, 111, 95, 108, 105, 115, 116]⟩, .int .i64 1, .string ⟨#[97, 112, 112, 101, 110, 100]⟩, .int .i64 2, .string ⟨#[114, 101, 118, 101, 114, 115, 101]⟩, .int .i64 1, .string ⟨#[108, 101, 110, 103, 116, 104]⟩, .int .i64 1, .string ⟨#[109, 101, 109, 98, 101, 114]⟩, .int .i64 2, .string ⟨#[110, 116, 104]⟩, .int .i64 2, .string ⟨#[105, 115, 95, 105, 110, 116]⟩, .int .i64 1, .string ⟨#[105, 115, 95, 97, 116, 111, 109]⟩, .int .i64 1, .string ⟨#[105, 115, 95, 112, 105, 100]⟩, .int .i64 1, .string ⟨#[105, 115, 95, 114, 101, 102]⟩, .int .i64 1, .string ⟨#[105, 115, 95, 116, 117, 112, 108, 101]⟩, .int .i64 1, .string ⟨#[105, 115, 95, 108, 105, 115, 116]⟩, .int .i64 1, .string ⟨#[105, 115, 95, 98, 105, 110]⟩, .int .i64 1, .string ⟨#[108, 105, 115, 116, 95, 116, 111, 95, 98, 105, 110]⟩, .int .i64 1, .string ⟨#[98, 105, 110, 95, 116, 111, 95, 108, 105, 115, 116]⟩, .int .i64 1, .string ⟨#[98, 105, 110, 95, 97, 116]⟩, .int .i64 2, .string ⟨#[98, 105, 110, 95, 112, 97, 114, 116]⟩, .int .i64 3, .string ⟨#[98, 105, 110, 95, 106, 111, 105, 110]⟩, .int .i64 2, .string ⟨#[115, 117, 109]⟩, .int .i64 1, .string ⟨#[115, 101, 113]⟩, .int .i64 2, .string ⟨#[97, 116, 111, 109, 95, 116, 111, 95, 108, 105, 115, 116]⟩, .int .i64 1, .string ⟨#[104, 97, 115, 104]⟩, .int .i64 1]
def shArr3 : Array Value := #[.string ⟨#[45, 45, 45]⟩, .string ⟨#[112, 115, 45]⟩, .string ⟨#[112, 120, 110]⟩, .string ⟨#[112, 115, 115]⟩, .string ⟨#[108, 45, 45]⟩, .string ⟨#[115, 115, 108]⟩, .string ⟨#[115, 115, 108]⟩, .string ⟨#[115, 107, 108]⟩, .string ⟨#[115, 105, 108]⟩, .string ⟨#[112, 115, 105]⟩, .string ⟨#[112, 115, 45]⟩, .string ⟨#[112, 115, 45]⟩, .string ⟨#[98, 112, 120]⟩, .string ⟨#[102, 45, 45]⟩, .string ⟨#[102, 45, 45]⟩, .string ⟨#[45, 45, 45]⟩, .string ⟨#[112, 102, 120]⟩, .string ⟨#[115, 115, 45]⟩, .string ⟨#[112, 108, 45]⟩, .string ⟨#[45, 45, 45]⟩, .string ⟨#[108, 45, 45]⟩, .string ⟨#[108, 45, 45]⟩, .string ⟨#[108, 115, 45]⟩, .string ⟨#[112, 45, 45]⟩, .string ⟨#[108, 45, 45]⟩, .string ⟨#[45, 45, 45]⟩, .string ⟨#[115, 45, 45]⟩, .string ⟨#[115, 45, 45]⟩, .string ⟨#[115, 45, 45]⟩, .string ⟨#[115, 45, 45]⟩, .string ⟨#[112, 115, 45]⟩, .string ⟨#[115, 45, 45]⟩, .string ⟨#[115, 45, 45]⟩, .string ⟨#[115, 115, 45]⟩, .string ⟨#[115, 45, 45]⟩, .string ⟨#[112, 115, 45]⟩, .string ⟨#[115, 45, 45]⟩, .string ⟨#[112, 120, 45]⟩, .string ⟨#[112, 115, 45]⟩, .string ⟨#[115, 45, 45]⟩, .string ⟨#[45, 45, 45]⟩, .string ⟨#[115, 45, 45]⟩]

set_option maxRecDepth 100000 in
set_option maxHeartbeats 4000000 in
theorem rfs_any (w : World) : Calls Tryd.prog 46 #[] w fun e w' => e = .returned (.slice (some ⟨w.heap.size, 0, none⟩) 40 40) ∧ w' = w.alloc (.cells fsArr 103) := by
  go_enter Tryd.func46, Tryd.ntmps46
  go_wp2_with fail
  go_ret
  exact ⟨rfl, rfl⟩
set_option maxRecDepth 100000 in
set_option maxHeartbeats 4000000 in
theorem rshapes_any (w : World) : Calls Tryd.prog 44 #[] w fun e w' => e = .returned (.slice (some ⟨w.heap.size, 0, none⟩) 42 42) ∧ w' = w.alloc (.cells shArr3 9) := by
  go_enter Tryd.func44, Tryd.ntmps44
  go_wp2_with fail
  go_ret
  exact ⟨rfl, rfl⟩
set_option maxHeartbeats 400000 in
theorem rin_any (v n : Int) (w : World) : Calls Tryd.prog 58 #[.int .i64 v, .int .i64 n] w fun e w' => e = .returned (.bool (decide (0 ≤ v ∧ v < n))) ∧ w = w' := by
  by_cases h : 0 ≤ v
  · by_cases h2 : v < n
    · rw [show decide (0 ≤ v ∧ v < n) = true from by simp; omega]
      go_enter Tryd.func58, Tryd.ntmps58
      go_wp2_with fail
      go_ret
      exact ⟨rfl, rfl⟩
    · rw [show decide (0 ≤ v ∧ v < n) = false from by simp; omega]
      go_enter Tryd.func58, Tryd.ntmps58
      go_wp2_with fail
      go_ret
      exact ⟨rfl, rfl⟩
  · rw [show decide (0 ≤ v ∧ v < n) = false from by simp; omega]
    go_enter Tryd.func58, Tryd.ntmps58
    go_wp2_with fail
    go_ret
    exact ⟨rfl, rfl⟩
end Go.Proofs.YtpdepmkojbpklaaDoor

/- Ranges of an operand. -/
namespace Go.Proofs.YtpdepmkojbpklaaDoor
open Go.RowKit
/-- the letter of what an operand is to be -/
def rch (what : Int) : Int := if what = 0 then 45 else if what = 1 then 112 else if what = 2 then 115 else if what = 3 then 120 else if what = 4 then 108 else if what = 5 then 98 else if what = 6 then 102 else if what = 7 then 107 else if what = 8 then 110 else 105
theorem far_wrap {v k m : Int} (h0 : isI64 v) (hk : 0 ≤ k) (hk2 : k ≤ 64) (hm : m ≤ 100000) (h : ¬ (k ≤ v ∧ v < k + m)) : decide (0 ≤ IntKind.i64.wrap (v - k) ∧ IntKind.i64.wrap (v - k) < m) = false := by
  obtain ⟨h1, h2⟩ := h0
  rw [IntKind.wrap_i64]
  simp only [decide_eq_false_iff_not]
  omega
theorem far_plain {v k m : Int} (h : ¬ (k ≤ v ∧ v < k + m)) : decide (0 ≤ v - k ∧ v - k < m) = false := by
  simp only [decide_eq_false_iff_not]; omega
theorem near_wrap {v k m : Int} (_hk : 0 ≤ k) (_hk2 : k ≤ 64) (hm : m ≤ 100000) (h : k ≤ v ∧ v < k + m) : decide (0 ≤ IntKind.i64.wrap (v - k) ∧ IntKind.i64.wrap (v - k) < m) = true := by
  rw [IntWalk.i64_in _ (by omega)]
  simp only [decide_eq_true_eq]; omega
theorem near_plain {v k m : Int} (h : k ≤ v ∧ v < k + m) : decide (0 ≤ v - k ∧ v - k < m) = true := by
  simp only [decide_eq_true_eq]; omega
end Go.Proofs.YtpdepmkojbpklaaDoor
