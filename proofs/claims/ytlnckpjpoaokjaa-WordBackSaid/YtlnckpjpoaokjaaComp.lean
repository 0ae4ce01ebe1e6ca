/- trouperef02.Compare and troupelaw00.Same of leaves. -/
import Derived.Test.YtlnckpjpoaokjaaSmallAtom
import Derived.Test.YtlnckpjpoaokjaaPlain
namespace Go.Proofs.Ytlnckpjpoaokjaa
open Go.RowKit

theorem sign_any (x y : Int) (w : World) : Calls Try.prog 57 #[.int .i64 x, .int .i64 y] w fun e w' => ∃ r, e = .returned (.int .i64 r) ∧ (r = 0 ↔ x = y) ∧ w' = w := by
  rcases Int.lt_trichotomy x y with h | h | h
  · go_enter Try.func57, Try.ntmps57
    go_wp2
    go_ret
    exact ⟨_, rfl, by constructor <;> intro e <;> omega, rfl⟩
  · subst h
    have h1 : ¬ x < x := by omega
    go_enter Try.func57, Try.ntmps57
    go_wp2
    go_ret
    exact ⟨_, rfl, by constructor <;> intro e <;> omega, rfl⟩
  · have h1 : ¬ x < y := by omega
    go_enter Try.func57, Try.ntmps57
    go_wp2
    go_ret
    exact ⟨_, rfl, by constructor <;> intro e <;> omega, rfl⟩

theorem less_self : ∀ l : List UInt8, Op.bytesLess l l = false
  | [] => rfl
  | a :: l => by simp [Op.bytesLess, less_self l]

theorem eq_toList {x y : ByteArray} (h : x.toList = y.toList) : x = y := by
  by_cases e : x = y
  · exact e
  · have := str_ne e
    rw [h] at this
    simp at this

theorem text_any (x y : ByteArray) (w : World) : Calls Try.prog 58 #[.string x, .string y] w fun e w' => ∃ r, e = .returned (.int .i64 r) ∧ (r = 0 ↔ x = y) ∧ w' = w := by
  by_cases hxy : x = y
  · subst hxy
    have h1 := less_self x.toList
    go_enter Try.func58, Try.ntmps58
    go_wp2_with (rw [h1])
    all_goals go_ret
    all_goals first | exact ⟨_, rfl, by simp, rfl⟩ | (exfalso; simp_all)
  · have h2 := str_ne hxy
    go_enter Try.func58, Try.ntmps58
    go_wp2
    all_goals go_ret
    all_goals first | exact ⟨_, rfl, ⟨fun e => by omega, fun e => absurd e hxy⟩, rfl⟩ | (exfalso; simp_all)
set_option maxRecDepth 100000 in
theorem comp_kinds (k k2 : Int) (n n2 : Int) (s s2 : ByteArray) (a a2 a3 b b2 b3 : Option Addr) (l c l2 d l3 e m g m2 i m3 j : Nat) (w : World) (h : k ≠ k2) : Calls Try.prog 34 #[.agg #[.int .i64 k, .int .i64 n, .string s, .slice a l c, .slice a2 l2 d, .slice a3 l3 e], .agg #[.int .i64 k2, .int .i64 n2, .string s2, .slice b m g, .slice b2 m2 i, .slice b3 m3 j]] w fun e w' => ∃ r, e = .returned (.int .i64 r) ∧ (r = 0 ↔ k = k2) ∧ Kp (fun _ => False) w w' := by
  have hkk : (k == k2) = false := by rw [beq_eq_false_iff_ne]; exact h
  have hkn : (k != k2) = true := by rw [bne_iff_ne]; exact h
  go_enter Try.func34, Try.ntmps34
  go_wp2_with (go_at_call 57; refine (sign_any _ _ _).mono ?_; rintro e w' ⟨r, rfl, hr, rfl⟩)
  go_ret
  exact ⟨_, rfl, by rw [hr], ((Kp.refl _ w).alloc _).alloc _⟩

set_option maxRecDepth 100000 in
theorem comp_num (n n2 : Int) (s s2 : ByteArray) (a a2 a3 b b2 b3 : Option Addr) (l c l2 d l3 e m g m2 i m3 j : Nat) (w : World) : Calls Try.prog 34 #[.agg #[.int .i64 1, .int .i64 n, .string s, .slice a l c, .slice a2 l2 d, .slice a3 l3 e], .agg #[.int .i64 1, .int .i64 n2, .string s2, .slice b m g, .slice b2 m2 i, .slice b3 m3 j]] w fun e w' => ∃ r, e = .returned (.int .i64 r) ∧ (r = 0 ↔ n = n2) ∧ Kp (fun _ => False) w w' := by
  go_enter Try.func34, Try.ntmps34
  go_wp2_with (go_at_call 57; refine (sign_any _ _ _).mono ?_; rintro e w' ⟨r, rfl, hr, rfl⟩)
  go_ret
  exact ⟨_, rfl, hr, ((Kp.refl _ w).alloc _).alloc _⟩

set_option maxRecDepth 100000 in
theorem comp_ref (n n2 : Int) (s s2 : ByteArray) (a a2 a3 b b2 b3 : Option Addr) (l c l2 d l3 e m g m2 i m3 j : Nat) (w : World) : Calls Try.prog 34 #[.agg #[.int .i64 3, .int .i64 n, .string s, .slice a l c, .slice a2 l2 d, .slice a3 l3 e], .agg #[.int .i64 3, .int .i64 n2, .string s2, .slice b m g, .slice b2 m2 i, .slice b3 m3 j]] w fun e w' => ∃ r, e = .returned (.int .i64 r) ∧ (r = 0 ↔ n = n2) ∧ Kp (fun _ => False) w w' := by
  go_enter Try.func34, Try.ntmps34
  go_wp2_with (go_at_call 57; refine (sign_any _ _ _).mono ?_; rintro e w' ⟨r, rfl, hr, rfl⟩)
  go_ret
  exact ⟨_, rfl, hr, ((Kp.refl _ w).alloc _).alloc _⟩

set_option maxRecDepth 100000 in
theorem comp_pid (n n2 : Int) (s s2 : ByteArray) (a a2 a3 b b2 b3 : Option Addr) (l c l2 d l3 e m g m2 i m3 j : Nat) (w : World) : Calls Try.prog 34 #[.agg #[.int .i64 4, .int .i64 n, .string s, .slice a l c, .slice a2 l2 d, .slice a3 l3 e], .agg #[.int .i64 4, .int .i64 n2, .string s2, .slice b m g, .slice b2 m2 i, .slice b3 m3 j]] w fun e w' => ∃ r, e = .returned (.int .i64 r) ∧ (r = 0 ↔ n = n2) ∧ Kp (fun _ => False) w w' := by
  go_enter Try.func34, Try.ntmps34
  go_wp2_with (go_at_call 57; refine (sign_any _ _ _).mono ?_; rintro e w' ⟨r, rfl, hr, rfl⟩)
  go_ret
  exact ⟨_, rfl, hr, ((Kp.refl _ w).alloc _).alloc _⟩

set_option maxRecDepth 100000 in
theorem comp_atom (n n2 : Int) (s s2 : ByteArray) (a a2 a3 b b2 b3 : Option Addr) (l c l2 d l3 e m g m2 i m3 j : Nat) (w : World) : Calls Try.prog 34 #[.agg #[.int .i64 2, .int .i64 n, .string s, .slice a l c, .slice a2 l2 d, .slice a3 l3 e], .agg #[.int .i64 2, .int .i64 n2, .string s2, .slice b m g, .slice b2 m2 i, .slice b3 m3 j]] w fun e w' => ∃ r, e = .returned (.int .i64 r) ∧ (r = 0 ↔ s = s2) ∧ Kp (fun _ => False) w w' := by
  go_enter Try.func34, Try.ntmps34
  go_wp2_with (go_at_call 58; refine (text_any _ _ _).mono ?_; rintro e w' ⟨r, rfl, hr, rfl⟩)
  go_ret
  exact ⟨_, rfl, hr, ((Kp.refl _ w).alloc _).alloc _⟩

set_option maxRecDepth 100000 in
theorem comp_nil (n n2 : Int) (s s2 : ByteArray) (a a2 a3 b b2 b3 : Option Addr) (l c l2 d l3 e m g m2 i m3 j : Nat) (w : World) : Calls Try.prog 34 #[.agg #[.int .i64 6, .int .i64 n, .string s, .slice a l c, .slice a2 l2 d, .slice a3 l3 e], .agg #[.int .i64 6, .int .i64 n2, .string s2, .slice b m g, .slice b2 m2 i, .slice b3 m3 j]] w fun e w' => ∃ r, e = .returned (.int .i64 r) ∧ (r = 0 ↔ True) ∧ Kp (fun _ => False) w w' := by
  go_enter Try.func34, Try.ntmps34
  go_wp2
  go_ret
  exact ⟨_, rfl, by simp, ((Kp.refl _ w).alloc _).alloc _⟩

end Go.Proofs.Ytlnckpjpoaokjaa
