/- errors.Is, of nil and of the kinds of errors (api.Errno). (The number 287 is the translation's count of types and a hundred.) -/
import Derived.Test.YtdcmdidikengbaaEBad
import Derived.LaidEql
import Derived.Stop.Asserts
import Derived.RowKitTokens
import Derived.Lib.IfaceEq
import Derived.LoopN
namespace Go.Proofs.Ytdcmdidikengbaa
open Go.RowKit Go.Extern.Stop Go.Stop Go.Extern

theorem Try.isTypeOf (v : Value) (w : World) : (Extern.ReflectliteType.typeOf #[.iface 39 v]).run Try.prog w = .ok (.iface 121 (.agg #[.pointer (some ⟨0, 39, none⟩)])) w := by kernel_rfl
def compOf : Array Value → Sem Value := Extern.ReflectliteType.method fun t => do Extern.Rtype.noPackHeld "Comparable" t; pure (.bool (← typeInfo t).comparable)
theorem Try.isComparable (w : World) : (compOf #[.agg #[.pointer (some ⟨0, 39, none⟩)]]).run Try.prog w = .ok (.bool true) w := by kernel_rfl
theorem Try.isMethodComparable (v : Value) (w : World) : (Go.method 287 121 v "Comparable").run Try.prog w = .ok (102, v) w := by kernel_rfl
theorem Try.isComp : (Try.prog.info? 39).map (·.comparable) = some true := by kernel_rfl
theorem Try.noIsE (v : Value) (xT : TypeId) (w : World) : (Instr.typeAssert (.iface 39 v) xT 123 true).run Try.prog w = .ok (.tuple #[.nilIface, .bool false]) w := run_typeAssert_lacksB Try.underlying123 (by kernel_rfl) (by kernel_rfl) v xT w
theorem Try.noUnwrapE (v : Value) (xT : TypeId) (w : World) : (Instr.typeAssert (.iface 39 v) xT 126 true).run Try.prog w = .ok (.tuple #[.nilIface, .bool false]) w := run_typeAssert_lacksB Try.underlying126 (by kernel_rfl) (by kernel_rfl) v xT w
theorem Try.noUnwrapsE (v : Value) (xT : TypeId) (w : World) : (Instr.typeAssert (.iface 39 v) xT 128 true).run Try.prog w = .ok (.tuple #[.nilIface, .bool false]) w := run_typeAssert_lacksB Try.underlying128 (by kernel_rfl) (by kernel_rfl) v xT w

/-- errors.Is(nil, k) -/
theorem is_nil (k : Int) (w : World) :
    Calls Try.prog 51 #[.nilIface, .iface 39 (.int .i64 k)] w fun e w' => e = .returned (.bool false) ∧ w = w' := by
  have hn := run_eql_iface_nil_left (P := Try.prog) w 39 (.int .i64 k) Try.underlying24
  go_enter Try.func51, Try.ntmps51
  go_wp2
  go_ret
  exact ⟨rfl, rfl⟩

set_option maxRecDepth 100000 in
set_option maxHeartbeats 1000000 in
/-- errors.Is(k, j) -/
theorem is_kind (k j : Int) (w : World) :
    Calls Try.prog 51 #[.iface 39 (.int .i64 k), .iface 39 (.int .i64 j)] w fun e w' => e = .returned (.bool (k == j)) ∧ w = w' := by
  have h8 := @run_callFunc_extern Try.prog 55 _ Extern.ReflectliteType.typeOf Try.func55 (by kernel_rfl) (by kernel_rfl) (by kernel_rfl) (by kernel_rfl)
  have h32 := @run_callFunc_extern Try.prog 102 _ compOf Try.func102 (by kernel_rfl) (by kernel_rfl) (by kernel_rfl) (by kernel_rfl)
  have tT := Try.isTypeOf
  have cT := Try.isComparable
  have mR := Try.isMethodComparable
  have nE := Try.noIsE
  have uE := Try.noUnwrapE
  have vE := Try.noUnwrapsE
  have heq := Go.Lib.run_eql_iface_int (P := Try.prog) w (k := .i64) k j Try.underlying24 Try.isComp Try.underlying39
  by_cases hkj : k = j
  · have hb : (k == j) = true := by simpa using hkj
    rw [hb] at heq ⊢
    clear hkj hb
    go_enter Try.func51, Try.ntmps51
    go_wp2
    refine wp_loop_rounds 1 ?_
    rw [rounds_succ]
    go_wp2
    go_ret
    exact ⟨rfl, rfl⟩
  · have hb : (k == j) = false := by simpa using hkj
    rw [hb] at heq ⊢
    clear hkj hb
    go_enter Try.func51, Try.ntmps51
    go_wp2
    refine wp_loop_rounds 1 ?_
    rw [rounds_succ]
    go_wp2
    go_ret
    exact ⟨rfl, rfl⟩
end Go.Proofs.Ytdcmdidikengbaa
