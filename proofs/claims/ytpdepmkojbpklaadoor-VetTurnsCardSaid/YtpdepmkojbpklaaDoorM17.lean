/- The shapes of the operands of each Op: the table. The type that errors.As asks for is laid. errors.As where a vet.slip is asked for. errors.As of a kind, where a vet.slip is asked for: it is none. What is wrong with a function as a chain. -/
import Derived.Test.YtpdepmkojbpklaaDoorProg
import Derived.Test.YtpdepmkojbpklaaDoorM01
import Derived.Test.YtpdepmkojbpklaaDoorM04
import Derived.Test.YtpdepmkojbpklaaDoorM05
import Derived.Test.YtpdepmkojbpklaaDoorM10
import Derived.Test.YtpdepmkojbpklaaDoorM16
import Derived.Deep.WholeRow
import Derived.LaidEql
import Derived.Stop.Asserts
import Derived.RowKitTokens
/- The shapes of the operands of each Op: the table. -/
namespace Go.Proofs.YtpdepmkojbpklaaDoor
open Go.RowKit

/-- the table in a row -/
def shTab : List Value := (List.range 126).map fun j : Nat => .int .i64 (vsh ((j / 3 : Nat) : Int) (j % 3))
theorem shTab_at (o i : Nat) (ho : o < 42) (hi : i < 3) : shTab[o * 3 + i]? = some (.int .i64 (vsh o i)) := by
  have h1 : (o * 3 + i) / 3 = o := by omega
  have h2 : (o * 3 + i) % 3 = i := by omega
  have h3 : o * 3 + i < 126 := by omega
  refine (List.getElem?_map ..).trans ?_
  rw [List.getElem?_range h3]
  simp only [Option.map_some, h1, h2]
def shArr : Array Value := shTab.toArray
theorem shArr_at (o i : Nat) (ho : o < 42) (hi : i < 3) : shArr[o * 3 + i]? = some (.int .i64 (vsh o i)) := by
  unfold shArr; rw [List.getElem?_toArray]; exact shTab_at o i ho hi
theorem sh_store (w : World) (L : List Value) (h : L = shTab) : (storeCells ⟨w.heap.size, 0, none⟩ L 0).run Tryd.prog (w.alloc (.cells Tryd.zeroCells114 114)) = .ok () (w.alloc (.cells shArr 114)) := by
  subst h
  exact run_storeCells_new (P := Tryd.prog) w 114 Tryd.zeroCells114 shArr (by kernel_rfl) (by kernel_rfl) (by kernel_rfl)
theorem sh_load (w : World) : (loadCellsFrom ⟨w.heap.size, 0, none⟩ 0 126 #[]).run Tryd.prog (w.alloc (.cells shArr 114)) = .ok shArr (w.alloc (.cells shArr 114)) :=
  run_loadCellsFrom_new w 114 shArr 126 (by kernel_rfl)
theorem sh_loadVar (w : World) : (loadVar 114 ⟨w.heap.size, 0, none⟩).run Tryd.prog (w.alloc (.cells shArr 114)) = .ok (.agg shArr) (w.alloc (.cells shArr 114)) :=
  run_loadVar_new w 114 shArr 42 113 Tryd.underlying114 (by kernel_rfl)
theorem sh_ret (w : World) (r : Array Value) (hr : r[0]?.getD undef = .pointer (some ⟨w.heap.size, 0, none⟩)) : (results Tryd.f50 r).run Tryd.prog (w.alloc (.cells shArr 114)) = .ok (.agg shArr) (w.alloc (.cells shArr 114)) := by
  simp [results, Tryd.results50, hr, asAddr, sh_loadVar]
set_option maxRecDepth 100000 in
set_option maxHeartbeats 8000000 in
theorem shapes_any (w : World) : Calls Tryd.prog 50 #[] w fun e w' => e = .returned (.agg shArr) ∧ Kp (fun _ => False) w w' := by
  go_enter Tryd.func50, Tryd.ntmps50
  go_wp2
  rw [sh_store]
  rotate_left
  · kernel_rfl
  go_wp2_with fail
  refine bodyPost_ret (v := .agg shArr) (sh_ret w _ ?_) rfl ⟨rfl, (Kp.refl _ w).alloc _⟩
  rfl
end Go.Proofs.YtpdepmkojbpklaaDoor

/- The type that errors.As asks for is laid. -/
namespace Go.Proofs.YtpdepmkojbpklaaDoor
open Go.RowKit

/-- the type that errors.As asks for is laid -/
def Laid0 (w : World) : Prop := w.cell? ⟨0, 0, none⟩ = some (.iface 155 (.agg #[.pointer (some ⟨2, 37, none⟩)]))
end Go.Proofs.YtpdepmkojbpklaaDoor

/- errors.As where a vet.slip is asked for. -/
namespace Go.Proofs.YtpdepmkojbpklaaDoor
open Go.RowKit Go.Extern.Stop Go.Stop Go.Extern

theorem vs_valueOf27 (t : Addr) (w : World) : (ReflectliteValue.unpack (.iface 120 (.pointer (some t)))).run Tryd.prog w
    = .ok (.agg #[.pointer (some ⟨2, 120, none⟩), .pointer (some ⟨w.heap.size, 0, none⟩), .int .u64 150]) (w.alloc (.cells #[.pointer (some t)] 120)) := by kernel_rfl
theorem vs_type27 (a : Addr) (w : World) : (ReflectliteValue.methodAny (ReflectliteValue.valueError "reflectlite.Value.Type" 0) (fun t _ _ _ => ReflectliteType.toType t) #[.agg #[.pointer (some ⟨2, 120, none⟩), .pointer (some a), .int .u64 150]]).run Tryd.prog w
    = .ok (.iface 155 (.agg #[.pointer (some ⟨2, 120, none⟩)])) w := by kernel_rfl
theorem vs_methodKind (h : Value) (w : World) : (Go.method 301 155 (.agg #[h]) "Kind").run Tryd.prog w = .ok (89, h) w := by kernel_rfl
theorem vs_kind27 (w : World) : ((ReflectliteType.abiMethod fun t => (fun a : Nat => Value.int IntKind.u8 (a : Int)) <$> Rtype.kind t) #[.pointer (some ⟨2, 120, none⟩)]).run Tryd.prog w = .ok (.int .u8 22) w := by kernel_rfl
theorem vs_kind25 (w : World) : ((ReflectliteType.abiMethod fun t => (fun a : Nat => Value.int IntKind.u8 (a : Int)) <$> Rtype.kind t) #[.pointer (some ⟨2, 92, none⟩)]).run Tryd.prog w = .ok (.int .u8 25) w := by kernel_rfl


theorem vs_rlm (z : Sem Value) (f : TypeId → Addr → Nat → Nat → Sem Value) (v : Value) :
    ReflectliteValue.method z f #[v] = (do match ← ReflectliteValue.parts v with | none => z | some (t, a, fl) => f t a fl (fl % 32)) := rfl
theorem vs_parts27 (a : Addr) (w : World) : (ReflectliteValue.parts (.agg #[.pointer (some ⟨2, 120, none⟩), .pointer (some a), .int .u64 150])).run Tryd.prog w = .ok (some (120, a, 150)) w := by kernel_rfl
theorem vs_isNil27 (a p : Addr) (W : World) (ha : W.cell? a = some (.pointer (some p))) :
    (ReflectliteValue.method (ReflectliteValue.valueError "reflectlite.Value.IsNil" 0) ReflectliteValue.isNil #[.agg #[.pointer (some ⟨2, 120, none⟩), .pointer (some a), .int .u64 150]]).run Tryd.prog W = .ok (.bool false) W := by
  rw [vs_rlm]
  simp only [Sem.run_bind, vs_parts27, Result.andThen]
  simp [ReflectliteValue.isNil, loadVar, isAgg, underlying, Tryd.underlying120, ha, Result.andThen]

theorem vs_methodElem (h : Value) (w : World) : (Go.method 301 155 (.agg #[h]) "Elem").run Tryd.prog w = .ok (109, .agg #[h]) w := by kernel_rfl
theorem vs_methodImplements (h : Value) (w : World) : (Go.method 301 155 (.agg #[h]) "Implements").run Tryd.prog w = .ok (110, .agg #[h]) w := by kernel_rfl
theorem vs_methodAssignableTo (h : Value) (w : World) : (Go.method 301 155 (.agg #[h]) "AssignableTo").run Tryd.prog w = .ok (107, .agg #[h]) w := by kernel_rfl
theorem vs_elem27 (w : World) : (ReflectliteType.method ReflectliteType.elem #[.agg #[.pointer (some ⟨2, 120, none⟩)]]).run Tryd.prog w = .ok (.iface 155 (.agg #[.pointer (some ⟨2, 92, none⟩)])) w := by kernel_rfl
theorem vs_implements25 (w : World) : (ReflectliteType.relation "Implements" ReflectliteType.implements_ #[.agg #[.pointer (some ⟨2, 92, none⟩)], .iface 155 (.agg #[.pointer (some ⟨2, 37, none⟩)])]).run Tryd.prog w = .ok (.bool true) w := by kernel_rfl
theorem vs_typeOf25 (v : Value) (w : World) : (ReflectliteType.typeOf #[.iface 92 v]).run Tryd.prog w = .ok (.iface 155 (.agg #[.pointer (some ⟨2, 92, none⟩)])) w := by kernel_rfl
theorem vs_assignable25 (w : World) : (ReflectliteType.relation "AssignableTo" ReflectliteType.assignableTo #[.agg #[.pointer (some ⟨2, 92, none⟩)], .iface 155 (.agg #[.pointer (some ⟨2, 92, none⟩)])]).run Tryd.prog w = .ok (.bool true) w := by kernel_rfl
theorem vs_valueOf25 (p : Int) (x : Value) (w : World) : (ReflectliteValue.unpack (.iface 92 (.agg #[.int .i64 p, x]))).run Tryd.prog w
    = .ok (.agg #[.pointer (some ⟨2, 92, none⟩), .pointer (some ⟨w.heap.size, 0, none⟩), .int .u64 153]) (w.alloc (.cells #[.int .i64 p, x] 92)) := by kernel_rfl

theorem vs_elemOf27 (w : World) : (Rtype.elem? 120).run Tryd.prog w = .ok (some 92) w := by kernel_rfl
theorem vs_mk25 (p : Addr) (w : World) : (ReflectliteValue.mk 92 p ReflectliteValue.flagAddr).run Tryd.prog w = .ok (.agg #[.pointer (some ⟨2, 92, none⟩), .pointer (some p), .int .u64 409]) w := by kernel_rfl
theorem vs_elemV27 (a p : Addr) (W : World) (ha : W.cell? a = some (.pointer (some p))) :
    (ReflectliteValue.method (ReflectliteValue.valueError "reflectlite.Value.Elem" 0) ReflectliteValue.elem #[.agg #[.pointer (some ⟨2, 120, none⟩), .pointer (some a), .int .u64 150]]).run Tryd.prog W
      = .ok (.agg #[.pointer (some ⟨2, 92, none⟩), .pointer (some p), .int .u64 409]) W := by
  rw [vs_rlm]
  simp only [Sem.run_bind, vs_parts27, Result.andThen]
  simp [ReflectliteValue.elem, loadVar, isAgg, underlying, Tryd.underlying120, ha, Result.andThen, vs_elemOf27, vs_mk25]
theorem vs_rls (v x : Value) : ReflectliteValue.set #[v, x] = (do
    let (some (dst, a, fl), some (src, b, _)) := (← ReflectliteValue.parts v, ← ReflectliteValue.parts x)
      | unsupported (.noEntry "extern/(internal/reflectlite.Value).Set.zeroValue")
    if fl / ReflectliteValue.flagAddr % 2 == 0 then unsupported (.noEntry "extern/(internal/reflectlite.Value).Set.unaddressable")
    let val ← loadVar src b
    if ← Rtype.directlyAssignable dst src then storeVar dst a val
    else if ← Rtype.implements dst src then
      if (← Rtype.kind src) == 20 then
        match val with
        | .nilIface => unsupported (.noEntry "extern/reflectlite: a nil value of one interface type handed on as a value of another")
        | _ => storeVar dst a val
      else storeVar dst a (.iface src val)
    else panicString ("reflectlite.Set: value of type " ++ (← Rtype.spelt src) ++ " is not assignable to type " ++ (← Rtype.spelt dst))
    pure (.tuple #[])) := rfl
theorem vs_parts25a (a : Addr) (w : World) : (ReflectliteValue.parts (.agg #[.pointer (some ⟨2, 92, none⟩), .pointer (some a), .int .u64 409])).run Tryd.prog w = .ok (some (92, a, 409)) w := by kernel_rfl
theorem vs_parts25 (a : Addr) (w : World) : (ReflectliteValue.parts (.agg #[.pointer (some ⟨2, 92, none⟩), .pointer (some a), .int .u64 153])).run Tryd.prog w = .ok (some (92, a, 153)) w := by kernel_rfl
theorem vs_direct25 (w : World) : (Rtype.directlyAssignable 92 92).run Tryd.prog w = .ok true w := by kernel_rfl
theorem vs_size25 (w : World) : (sizeOf 92).run Tryd.prog w = .ok 2 w := by kernel_rfl
theorem vs_set25 (tb bb : Nat) (p k : Int) (o0 o1 : Value) (W : World) (hb : W.heap[bb]? = some (.cells #[.int .i64 p, .iface 42 (.int .i64 k)] 92 (0, 0))) (ht : W.heap[tb]? = some (.cells #[o0, o1] 92 (0, 0))) :
    (ReflectliteValue.set #[.agg #[.pointer (some ⟨2, 92, none⟩), .pointer (some ⟨tb, 0, none⟩), .int .u64 409], .agg #[.pointer (some ⟨2, 92, none⟩), .pointer (some ⟨bb, 0, none⟩), .int .u64 153]]).run Tryd.prog W
      = .ok (.tuple #[]) ((W.setCell ⟨tb, 0, none⟩ (.int .i64 p)).setCell ⟨tb, 1, none⟩ (.iface 42 (.int .i64 k))) := by
  have hb0 : W.cell? ⟨bb, 0, none⟩ = some (.int .i64 p) := by rw [cell_of_row W bb 0 _ _ _ hb]; rfl
  have hb1 : W.cell? ⟨bb, 1, none⟩ = some (.iface 42 (.int .i64 k)) := by rw [cell_of_row W bb 1 _ _ _ hb]; rfl
  have ht0 : W.cell? ⟨tb, 0, none⟩ = some o0 := by rw [cell_of_row W tb 0 _ _ _ ht]; rfl
  have ht1 : (W.setCell ⟨tb, 0, none⟩ (.int .i64 p)).cell? ⟨tb, 1, none⟩ = some o1 := by rw [cell_of_row _ tb 1 _ _ _ (heap_set_same ht _)]; rfl
  have f0 : W.frozen? ⟨tb, 0, none⟩ = false := by simp [World.frozen?, ht]
  have f1 : (W.setCell ⟨tb, 0, none⟩ (.int .i64 p)).frozen? ⟨tb, 1, none⟩ = false := by simp [World.frozen?, heap_set_same ht]
  rw [vs_rls]
  simp only [Sem.run_bind, vs_parts25a, vs_parts25, Result.andThen]
  have hs := vs_size25
  have hl : (loadCells ⟨bb, 0, none⟩ 2).run Tryd.prog W = .ok #[.int .i64 p, .iface 42 (.int .i64 k)] W := by
    simp [loadCells, loadCellsFrom, hb0, hb1, Result.andThen, Addr.add]
  have s0 : (store ⟨tb, 0, none⟩ (.int .i64 p)).run Tryd.prog W = .ok () (W.setCell ⟨tb, 0, none⟩ (.int .i64 p)) := by
    rw [run_store Tryd.prog W _ _ _ (by rfl)]
    simp [ht0, f0]
  have s1 : (store ⟨tb, 1, none⟩ (.iface 42 (.int .i64 k))).run Tryd.prog (W.setCell ⟨tb, 0, none⟩ (.int .i64 p)) = .ok () ((W.setCell ⟨tb, 0, none⟩ (.int .i64 p)).setCell ⟨tb, 1, none⟩ (.iface 42 (.int .i64 k))) := by
    rw [run_store Tryd.prog _ _ _ _ (by rfl)]
    simp [ht1, f1]
  simp only [ReflectliteValue.flagAddr, loadVar, isAgg, underlying, storeVar]
  simp [Tryd.underlying92, hs, hl, s0, s1, Result.andThen, vs_direct25, storeCells, Addr.add, Value.cells]

set_option maxHeartbeats 4000000 in
theorem as_slip (p k : Int) (o0 o1 : Value) (tb : Nat) (w : World) (hg : Laid0 w) (ht : w.heap[tb]? = some (.cells #[o0, o1] 92 (0, 0))) :
    Calls Tryd.prog 52 #[.iface 92 (.agg #[.int .i64 p, .iface 42 (.int .i64 k)]), .iface 120 (.pointer (some ⟨tb, 0, none⟩))] w fun ev w' => ev = .returned (.bool true) ∧ Kp (fun q => q = tb) w w' ∧ w'.heap[tb]? = some (.cells #[.int .i64 p, .iface 42 (.int .i64 k)] 92 (0, 0)) := by
  unfold Laid0 at hg
  have h6 := @run_callFunc_extern Tryd.prog 63 _ (fun args => ReflectliteValue.unpack (args.getD 0 (.tuple #[]))) Tryd.func63 (by kernel_rfl) (by kernel_rfl) (by kernel_rfl) (by kernel_rfl)
  have h7 := @run_callFunc_extern Tryd.prog 64 _ (ReflectliteValue.methodAny (ReflectliteValue.valueError "reflectlite.Value.Type" 0) (fun t _ _ _ => ReflectliteType.toType t)) Tryd.func64 (by kernel_rfl) (by kernel_rfl) (by kernel_rfl) (by kernel_rfl)
  have h8 := @run_callFunc_extern Tryd.prog 65 _ (ReflectliteValue.method (ReflectliteValue.valueError "reflectlite.Value.IsNil" 0) ReflectliteValue.isNil) Tryd.func65 (by kernel_rfl) (by kernel_rfl) (by kernel_rfl) (by kernel_rfl)
  have h27 := @run_callFunc_extern Tryd.prog 89 _ (ReflectliteType.abiMethod fun t => do pure (.int .u8 (← Rtype.kind t))) Tryd.func89 (by kernel_rfl) (by kernel_rfl) (by kernel_rfl) (by kernel_rfl)
  have h37 := @run_callFunc_extern Tryd.prog 109 _ (ReflectliteType.method ReflectliteType.elem) Tryd.func109 (by kernel_rfl) (by kernel_rfl) (by kernel_rfl) (by kernel_rfl)
  have h38 := @run_callFunc_extern Tryd.prog 110 _ (ReflectliteType.relation "Implements" ReflectliteType.implements_) Tryd.func110 (by kernel_rfl) (by kernel_rfl) (by kernel_rfl) (by kernel_rfl)
  have h10 := @run_callFunc_extern Tryd.prog 71 _ ReflectliteType.typeOf Tryd.func71 (by kernel_rfl) (by kernel_rfl) (by kernel_rfl) (by kernel_rfl)
  have h35 := @run_callFunc_extern Tryd.prog 107 _ (ReflectliteType.relation "AssignableTo" ReflectliteType.assignableTo) Tryd.func107 (by kernel_rfl) (by kernel_rfl) (by kernel_rfl) (by kernel_rfl)
  have h11 := @run_callFunc_extern Tryd.prog 72 _ (ReflectliteValue.method (ReflectliteValue.valueError "reflectlite.Value.Elem" 0) ReflectliteValue.elem) Tryd.func72 (by kernel_rfl) (by kernel_rfl) (by kernel_rfl) (by kernel_rfl)
  have h12 := @run_callFunc_extern Tryd.prog 73 _ ReflectliteValue.set Tryd.func73 (by kernel_rfl) (by kernel_rfl) (by kernel_rfl) (by kernel_rfl)
  have tO := vs_typeOf25
  have mA := vs_methodAssignableTo
  have a25 := vs_assignable25
  have v25 := vs_valueOf25
  have f6 := vs_valueOf27
  have f7 := vs_type27
  have mK := vs_methodKind
  have mE := vs_methodElem
  have mI := vs_methodImplements
  have k27 := vs_kind27
  have k25 := vs_kind25
  have e27 := vs_elem27
  have i25 := vs_implements25
  have n8 := vs_isNil27 ⟨w.heap.size, 0, none⟩ ⟨tb, 0, none⟩ ((w.alloc (.cells #[.pointer (some ⟨tb, 0, none⟩)] 120)).alloc (.cells #[.pointer (some ⟨2, 120, none⟩), .pointer (some ⟨w.heap.size, 0, none⟩), .int .u64 150] 140)) (by simp)
  have hlt : 0 < w.heap.size := by
    rcases Nat.eq_zero_or_pos w.heap.size with h0 | h
    · simp [World.cell?, h0] at hg
    · exact h
  have hg2 : ((w.alloc (.cells #[.pointer (some ⟨tb, 0, none⟩)] 120)).alloc (.cells #[.pointer (some ⟨2, 120, none⟩), .pointer (some ⟨w.heap.size, 0, none⟩), .int .u64 150] 140)).cell? ⟨0, 0, none⟩ = some (.iface 155 (.agg #[.pointer (some ⟨2, 37, none⟩)])) := by
    rw [World.cell?_alloc_lt _ _ ⟨0, 0, none⟩ (by simp), World.cell?_alloc_lt _ _ ⟨0, 0, none⟩ hlt]; exact hg
  have htl : tb < w.heap.size := (Array.getElem?_eq_some_iff.1 ht).1
  have el := vs_elemV27 ⟨w.heap.size, 0, none⟩ ⟨tb, 0, none⟩ (((w.alloc (.cells #[.pointer (some ⟨tb, 0, none⟩)] 120)).alloc (.cells #[.pointer (some ⟨2, 120, none⟩), .pointer (some ⟨w.heap.size, 0, none⟩), .int .u64 150] 140)).alloc (.cells #[.pointer (some ⟨2, 120, none⟩), .pointer (some ⟨w.heap.size, 0, none⟩), .int .u64 150] 140)) (by rw [World.cell?_alloc_lt _ _ ⟨w.heap.size, 0, none⟩ (by simp; omega)]; simp)
  obtain ⟨w4, hw4⟩ : ∃ w4, (((w.alloc (.cells #[.pointer (some ⟨tb, 0, none⟩)] 120)).alloc (.cells #[.pointer (some ⟨2, 120, none⟩), .pointer (some ⟨w.heap.size, 0, none⟩), .int .u64 150] 140)).alloc (.cells #[.pointer (some ⟨2, 120, none⟩), .pointer (some ⟨w.heap.size, 0, none⟩), .int .u64 150] 140)).alloc (.cells #[.int .i64 p, .iface 42 (.int .i64 k)] 92) = w4 := ⟨_, rfl⟩
  have hk4 : Kp (fun _ => False) w w4 := by rw [← hw4]; exact ((((Kp.refl _ w).alloc _).alloc _).alloc _).alloc _
  have hb4 : w4.heap[w.heap.size + 1 + 1 + 1]? = some (.cells #[.int .i64 p, .iface 42 (.int .i64 k)] 92 (0, 0)) := by
    rw [← hw4]
    have := heap_alloc_new (((w.alloc (.cells #[.pointer (some ⟨tb, 0, none⟩)] 120)).alloc (.cells #[.pointer (some ⟨2, 120, none⟩), .pointer (some ⟨w.heap.size, 0, none⟩), .int .u64 150] 140)).alloc (.cells #[.pointer (some ⟨2, 120, none⟩), .pointer (some ⟨w.heap.size, 0, none⟩), .int .u64 150] 140)) (.cells #[.int .i64 p, .iface 42 (.int .i64 k)] 92)
    simpa using this
  have ht4 := (hk4.block tb htl (fun e => e)).trans ht
  have st := vs_set25 tb (w.heap.size + 1 + 1 + 1) p k o0 o1 w4 hb4 ht4
  rw [← hw4] at st
  have H4 := Lib.hid (And.intro hk4 (And.intro ht4 hw4))
  clear hk4 hb4 ht4 hw4 ht
  go_enter Tryd.func52, Tryd.ntmps52
  go_wp2
  refine wp_loop_rounds 1 ?_
  rw [rounds_succ]
  go_wp2
  go_ret
  rw [H4.out.2.2]
  exact ⟨rfl, ((H4.out.1.mono fun _ _ e => e.elim : Kp (fun q => q = tb) w w4).setCell _ _ (.inl rfl)).setCell _ _ (.inl rfl), heap_set_same (heap_set_same H4.out.2.1 _) _⟩
end Go.Proofs.YtpdepmkojbpklaaDoor

/- errors.As of a kind, where a vet.slip is asked for: it is none. -/
namespace Go.Proofs.YtpdepmkojbpklaaDoor
open Go.RowKit Go.Extern.Stop Go.Stop Go.Extern

theorem vs_typeOfE (v : Value) (w : World) : (ReflectliteType.typeOf #[.iface 42 v]).run Tryd.prog w = .ok (.iface 155 (.agg #[.pointer (some ⟨2, 42, none⟩)])) w := by kernel_rfl
theorem vs_assignableE (w : World) : (ReflectliteType.relation "AssignableTo" ReflectliteType.assignableTo #[.agg #[.pointer (some ⟨2, 42, none⟩)], .iface 155 (.agg #[.pointer (some ⟨2, 92, none⟩)])]).run Tryd.prog w = .ok (.bool false) w := by kernel_rfl
theorem vs_asE (v : Value) (xT : TypeId) (w : World) : (Instr.typeAssert (.iface 42 v) xT 160 true).run Tryd.prog w = .ok (.tuple #[.nilIface, .bool false]) w := run_typeAssert_lacksB Tryd.underlying160 (by kernel_rfl) (by kernel_rfl) v xT w
theorem vs_unE (v : Value) (xT : TypeId) (w : World) : (Instr.typeAssert (.iface 42 v) xT 163 true).run Tryd.prog w = .ok (.tuple #[.nilIface, .bool false]) w := run_typeAssert_lacksB Tryd.underlying163 (by kernel_rfl) (by kernel_rfl) v xT w
theorem vs_unsE (v : Value) (xT : TypeId) (w : World) : (Instr.typeAssert (.iface 42 v) xT 165 true).run Tryd.prog w = .ok (.tuple #[.nilIface, .bool false]) w := run_typeAssert_lacksB Tryd.underlying165 (by kernel_rfl) (by kernel_rfl) v xT w
set_option maxHeartbeats 4000000 in
theorem as_errno (k : Int) (o0 o1 : Value) (tb : Nat) (w : World) (hg : Laid0 w) (ht : w.heap[tb]? = some (.cells #[o0, o1] 92 (0, 0))) :
    Calls Tryd.prog 52 #[.iface 42 (.int .i64 k), .iface 120 (.pointer (some ⟨tb, 0, none⟩))] w fun ev w' => ev = .returned (.bool false) ∧ Kp (fun _ => False) w w' := by
  unfold Laid0 at hg
  have h6 := @run_callFunc_extern Tryd.prog 63 _ (fun args => ReflectliteValue.unpack (args.getD 0 (.tuple #[]))) Tryd.func63 (by kernel_rfl) (by kernel_rfl) (by kernel_rfl) (by kernel_rfl)
  have h7 := @run_callFunc_extern Tryd.prog 64 _ (ReflectliteValue.methodAny (ReflectliteValue.valueError "reflectlite.Value.Type" 0) (fun t _ _ _ => ReflectliteType.toType t)) Tryd.func64 (by kernel_rfl) (by kernel_rfl) (by kernel_rfl) (by kernel_rfl)
  have h8 := @run_callFunc_extern Tryd.prog 65 _ (ReflectliteValue.method (ReflectliteValue.valueError "reflectlite.Value.IsNil" 0) ReflectliteValue.isNil) Tryd.func65 (by kernel_rfl) (by kernel_rfl) (by kernel_rfl) (by kernel_rfl)
  have h27 := @run_callFunc_extern Tryd.prog 89 _ (ReflectliteType.abiMethod fun t => do pure (.int .u8 (← Rtype.kind t))) Tryd.func89 (by kernel_rfl) (by kernel_rfl) (by kernel_rfl) (by kernel_rfl)
  have h37 := @run_callFunc_extern Tryd.prog 109 _ (ReflectliteType.method ReflectliteType.elem) Tryd.func109 (by kernel_rfl) (by kernel_rfl) (by kernel_rfl) (by kernel_rfl)
  have h38 := @run_callFunc_extern Tryd.prog 110 _ (ReflectliteType.relation "Implements" ReflectliteType.implements_) Tryd.func110 (by kernel_rfl) (by kernel_rfl) (by kernel_rfl) (by kernel_rfl)
  have h10 := @run_callFunc_extern Tryd.prog 71 _ ReflectliteType.typeOf Tryd.func71 (by kernel_rfl) (by kernel_rfl) (by kernel_rfl) (by kernel_rfl)
  have h35 := @run_callFunc_extern Tryd.prog 107 _ (ReflectliteType.relation "AssignableTo" ReflectliteType.assignableTo) Tryd.func107 (by kernel_rfl) (by kernel_rfl) (by kernel_rfl) (by kernel_rfl)
  have h11 := @run_callFunc_extern Tryd.prog 72 _ (ReflectliteValue.method (ReflectliteValue.valueError "reflectlite.Value.Elem" 0) ReflectliteValue.elem) Tryd.func72 (by kernel_rfl) (by kernel_rfl) (by kernel_rfl) (by kernel_rfl)
  have h12 := @run_callFunc_extern Tryd.prog 73 _ ReflectliteValue.set Tryd.func73 (by kernel_rfl) (by kernel_rfl) (by kernel_rfl) (by kernel_rfl)
  have tO := vs_typeOfE
  have mA := vs_methodAssignableTo
  have a25 := vs_assignableE
  have f6 := vs_valueOf27
  have f7 := vs_type27
  have mK := vs_methodKind
  have mE := vs_methodElem
  have mI := vs_methodImplements
  have k27 := vs_kind27
  have k25 := vs_kind25
  have e27 := vs_elem27
  have i25 := vs_implements25
  have n8 := vs_isNil27 ⟨w.heap.size, 0, none⟩ ⟨tb, 0, none⟩ ((w.alloc (.cells #[.pointer (some ⟨tb, 0, none⟩)] 120)).alloc (.cells #[.pointer (some ⟨2, 120, none⟩), .pointer (some ⟨w.heap.size, 0, none⟩), .int .u64 150] 140)) (by simp)
  have hlt : 0 < w.heap.size := by
    rcases Nat.eq_zero_or_pos w.heap.size with h0 | h
    · simp [World.cell?, h0] at hg
    · exact h
  have hg2 : ((w.alloc (.cells #[.pointer (some ⟨tb, 0, none⟩)] 120)).alloc (.cells #[.pointer (some ⟨2, 120, none⟩), .pointer (some ⟨w.heap.size, 0, none⟩), .int .u64 150] 140)).cell? ⟨0, 0, none⟩ = some (.iface 155 (.agg #[.pointer (some ⟨2, 37, none⟩)])) := by
    rw [World.cell?_alloc_lt _ _ ⟨0, 0, none⟩ (by simp), World.cell?_alloc_lt _ _ ⟨0, 0, none⟩ hlt]; exact hg
  have htl : tb < w.heap.size := (Array.getElem?_eq_some_iff.1 ht).1
  have q1 := vs_asE (.int .i64 k) 37
  have q2 := vs_unE (.int .i64 k) 37
  have q3 := vs_unsE (.int .i64 k) 37
  go_enter Tryd.func52, Tryd.ntmps52
  go_wp2
  refine wp_loop_rounds 1 ?_
  rw [rounds_succ]
  go_wp2
  go_ret
  refine ⟨rfl, ?_⟩
  repeat first | exact Kp.refl _ _ | refine Kp.alloc ?_ _ | refine Kp.setCell ?_ _ _ (.inr (by simp [World.alloc] <;> omega))
end Go.Proofs.YtpdepmkojbpklaaDoor

/- What is wrong with a function as a chain. -/
namespace Go.Proofs.YtpdepmkojbpklaaDoor
open Go.RowKit

theorem laid0_kp {w w' : World} (h : Laid0 w) (hk : Kp (fun _ => False) w w') : Laid0 w' := (hk.cell (World.block_lt_of_cell? _ _ h) (fun e => e)).trans h

set_option maxRecDepth 100000 in
set_option maxHeartbeats 4000000 in
theorem placed_slip (p k : Int) (hk : k ≠ 0) (w : World) (hg : Laid0 w) :
    Calls Tryd.prog 38 #[.iface 92 (.agg #[.int .i64 p, .iface 42 (.int .i64 k)])] w (EBad w id [Lk.fault ⟨#[97, 116]⟩ p, Lk.kind k]) := by
  obtain ⟨w1, hw1⟩ : ∃ w1, w.alloc (.cells #[.int .i64 0, .nilIface] 92) = w1 := ⟨_, rfl⟩
  have hk1 : Kp (fun _ => False) w w1 := by rw [← hw1]; exact (Kp.refl _ w).alloc _
  have hb : w1.heap[w.heap.size]? = some (.cells #[.int .i64 0, .nilIface] 92 (0, 0)) := by rw [← hw1]; exact heap_alloc_new w _
  have hg1 : Laid0 w1 := laid0_kp hg hk1
  have HA := as_slip p k _ _ w.heap.size w1 hg1 hb
  have H := Lib.hid (And.intro hk hk1)
  clear hk hk1 hb hg hg1
  go_enter Tryd.func38, Tryd.ntmps38
  go_wp2_with fail
  refine HA.mono ?_
  rintro e w2 ⟨rfl, hk2, hb2⟩
  have hk02 : Kp (fun _ => False) w w2 := H.out.2.trans (hk2.mono fun q hq e => .inr (by omega))
  have y0 : w2.cell? ⟨w.heap.size, 0, none⟩ = some (.int .i64 p) := by rw [cell_of_row w2 _ _ _ _ _ hb2]; rfl
  have y1 : w2.cell? ⟨w.heap.size, 1, none⟩ = some (.iface 42 (.int .i64 k)) := by rw [cell_of_row w2 _ _ _ _ _ hb2]; rfl
  have HB := at_any ⟨#[97, 116]⟩ p 42 (.int .i64 k) w2
  have H2 := Lib.hid (And.intro hk02 hb2)
  clear hk2 hk02 hb2
  go_wp2_with fail
  refine HB.mono ?_
  rintro e w3 ⟨rfl, rfl⟩
  go_wp2_with fail
  go_ret
  exact EBad.drew (ebad1 w2 id ⟨#[97, 116]⟩ p k H.out.1 0) H2.out.1

set_option maxRecDepth 100000 in
set_option maxHeartbeats 4000000 in
theorem placed_kind (k : Int) (w : World) (hg : Laid0 w) :
    Calls Tryd.prog 38 #[.iface 42 (.int .i64 k)] w fun e w' => e = .returned (.iface 42 (.int .i64 k)) ∧ Kp (fun _ => False) w w' := by
  obtain ⟨w1, hw1⟩ : ∃ w1, w.alloc (.cells #[.int .i64 0, .nilIface] 92) = w1 := ⟨_, rfl⟩
  have hk1 : Kp (fun _ => False) w w1 := by rw [← hw1]; exact (Kp.refl _ w).alloc _
  have hb : w1.heap[w.heap.size]? = some (.cells #[.int .i64 0, .nilIface] 92 (0, 0)) := by rw [← hw1]; exact heap_alloc_new w _
  have hg1 : Laid0 w1 := laid0_kp hg hk1
  have HA := as_errno k _ _ w.heap.size w1 hg1 hb
  have H := Lib.hid hk1
  clear hk1 hb hg hg1
  go_enter Tryd.func38, Tryd.ntmps38
  go_wp2_with fail
  refine HA.mono ?_
  rintro e w2 ⟨rfl, hk2⟩
  have H2 := Lib.hid (H.out.trans' hk2)
  clear hk2
  go_wp2_with fail
  go_ret
  exact ⟨rfl, H2.out⟩
end Go.Proofs.YtpdepmkojbpklaaDoor
