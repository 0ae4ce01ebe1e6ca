/- errors.Is, of nil and of the kinds of errors (api.Errno). (The number 346 is the translation's count of types and a hundred.) -/
import Derived.Test.YtlnckpjpoaokjaaEBad
import Derived.LaidEql
import Derived.Stop.Asserts
import Derived.RowKitTokens
import Derived.Lib.IfaceEq
import Derived.LoopN
namespace Go.Proofs.Ytlnckpjpoaokjaa
open Go.RowKit Go.Extern.Stop Go.Stop Go.Extern

theorem Try.isTypeOf (v : Value) (w : World) : (Extern.ReflectliteType.typeOf #[.iface 84 v]).run Try.prog w = .ok (.iface 178 (.agg #[.pointer (some ⟨0, 84, none⟩)])) w := by kernel_rfl
def compOf : Array Value → Sem Value := Extern.ReflectliteType.method fun t => do Extern.Rtype.noPackHeld "Comparable" t; pure (.bool (← typeInfo t).comparable)
theorem Try.isComparable (w : World) : (compOf #[.agg #[.pointer (some ⟨0, 84, none⟩)]]).run Try.prog w = .ok (.bool true) w := by kernel_rfl
theorem Try.isMethodComparable (v : Value) (w : World) : (Go.method 346 178 v "Comparable").run Try.prog w = .ok (151, v) w := by kernel_rfl
theorem Try.isComp : (Try.prog.info? 84).map (·.comparable) = some true := by kernel_rfl
theorem Try.noIsE (v : Value) (xT : TypeId) (w : World) : (Instr.typeAssert (.iface 84 v) xT 180 true).run Try.prog w = .ok (.tuple #[.nilIface, .bool false]) w := run_typeAssert_lacksB Try.underlying180 (by kernel_rfl) (by kernel_rfl) v xT w
theorem Try.noUnwrapE (v : Value) (xT : TypeId) (w : World) : (Instr.typeAssert (.iface 84 v) xT 183 true).run Try.prog w = .ok (.tuple #[.nilIface, .bool false]) w := run_typeAssert_lacksB Try.underlying183 (by kernel_rfl) (by kernel_rfl) v xT w
theorem Try.noUnwrapsE (v : Value) (xT : TypeId) (w : World) : (Instr.typeAssert (.iface 84 v) xT 185 true).run Try.prog w = .ok (.tuple #[.nilIface, .bool false]) w := run_typeAssert_lacksB Try.underlying185 (by kernel_rfl) (by kernel_rfl) v xT w

/-- errors.Is(nil, k) -/
theorem is_nil (k : Int) (w : World) :
    Calls Try.prog 50 #[.nilIface, .iface 84 (.int .i64 k)] w fun e w' => e = .returned (.bool false) ∧ w = w' := by
  have hn := run_eql_iface_nil_left (P := Try.prog) w 84 (.int .i64 k) Try.underlying25
  go_enter Try.func50, Try.ntmps50
  go_wp2
  go_ret
  exact ⟨rfl, rfl⟩

set_option maxRecDepth 100000 in
set_option maxHeartbeats 1000000 in
/-- errors.Is(k, j) -/
theorem is_kind (k j : Int) (w : World) :
    Calls Try.prog 50 #[.iface 84 (.int .i64 k), .iface 84 (.int .i64 j)] w fun e w' => e = .returned (.bool (k == j)) ∧ w = w' := by
  have h8 := @run_callFunc_extern Try.prog 79 _ Extern.ReflectliteType.typeOf Try.func79 (by kernel_rfl) (by kernel_rfl) (by kernel_rfl) (by kernel_rfl)
  have h32 := @run_callFunc_extern Try.prog 151 _ compOf Try.func151 (by kernel_rfl) (by kernel_rfl) (by kernel_rfl) (by kernel_rfl)
  have tT := Try.isTypeOf
  have cT := Try.isComparable
  have mR := Try.isMethodComparable
  have nE := Try.noIsE
  have uE := Try.noUnwrapE
  have vE := Try.noUnwrapsE
  have heq := Go.Lib.run_eql_iface_int (P := Try.prog) w (k := .i64) k j Try.underlying25 Try.isComp Try.underlying84
  by_cases hkj : k = j
  · have hb : (k == j) = true := by simpa using hkj
    rw [hb] at heq ⊢
    clear hkj hb
    go_enter Try.func50, Try.ntmps50
    go_wp2
    refine wp_loop_rounds 1 ?_
    rw [rounds_succ]
    go_wp2
    go_ret
    exact ⟨rfl, rfl⟩
  · have hb : (k == j) = false := by simpa using hkj
    rw [hb] at heq ⊢
    clear hkj hb
    go_enter Try.func50, Try.ntmps50
    go_wp2
    refine wp_loop_rounds 1 ?_
    rw [rounds_succ]
    go_wp2
    go_ret
    exact ⟨rfl, rfl⟩
end Go.Proofs.Ytlnckpjpoaokjaa
