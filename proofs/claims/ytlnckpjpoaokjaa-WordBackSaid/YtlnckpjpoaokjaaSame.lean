/- troupelaw00.Same of two leaves whose lists are empty. -/
import Derived.Test.YtlnckpjpoaokjaaComp
namespace Go.Proofs.Ytlnckpjpoaokjaa
open Go.RowKit

theorem conv_none {P : Program} (w : World) (src dst e : TypeId) (a : Option Addr) (c : Nat) (hs : P.underlying src = some (.slice e)) (he : P.underlying e = some (.int .u8)) (hd : P.underlying dst = some .string) :
    (convert src dst (.slice a 0 c)).run P w = .ok (.string ⟨#[]⟩) w := by
  rw [run_convert_bytes_string w src dst e a 0 c hs he hd]
  cases a
  · simp [Conv.bytesToString]
    rfl
  · simp [Conv.bytesToString]
    rfl

set_option maxRecDepth 100000 in
theorem sameAll_none (a b : Option Addr) (c d : Nat) (w : World) : Calls Try.prog 55 #[.slice a 0 c, .slice b 0 d] w fun e w' => e = .returned (.bool true) ∧ w' = w := by
  go_enter Try.func55, Try.ntmps55
  go_wp2_with fail
  refine wp_loop_rounds 1 ?_
  rw [rounds_succ]
  go_wp2_with fail
  go_ret
  exact ⟨rfl, rfl⟩

set_option maxRecDepth 100000 in
set_option maxHeartbeats 1000000 in
theorem same_none (k n : Int) (s : ByteArray) (a a2 a3 : Option Addr) (c d e : Nat) (w : World) : Calls Try.prog 32 #[termOf k n s, .agg #[.int .i64 k, .int .i64 n, .string s, .slice a 0 c, .slice a2 0 d, .slice a3 0 e]] w fun e w' => e = .returned (.bool true) ∧ Kp (fun _ => False) w w' := by
  have hcv := fun (w : World) => conv_none (P := Try.prog) w 35 9 5 none 0 Try.underlying35 Try.underlying5 Try.underlying9
  have hcv2 := fun (w : World) => conv_none (P := Try.prog) w 35 9 5 a3 e Try.underlying35 Try.underlying5 Try.underlying9
  unfold termOf
  go_enter Try.func32, Try.ntmps32
  go_wp2_with (go_at_call 55; refine (sameAll_none _ _ _ _ _).mono ?_; rintro e w' ⟨rfl, rfl⟩)
  go_ret
  exact ⟨rfl, ((Kp.refl _ w).alloc _).alloc _⟩
end Go.Proofs.Ytlnckpjpoaokjaa
