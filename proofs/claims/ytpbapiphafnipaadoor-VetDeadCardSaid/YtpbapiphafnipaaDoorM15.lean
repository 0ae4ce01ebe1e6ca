/- errors.As where a vet.slip is asked for. errors.As of a kind, where a vet.slip is asked for: it is none. What is wrong with a function as a chain. Whether one of the functions has this name. -/
import Derived.Test.YtpbapiphafnipaaDoorM01
import Derived.Test.YtpbapiphafnipaaDoorM04
import Derived.Test.YtpbapiphafnipaaDoorM05
import Derived.Test.YtpbapiphafnipaaDoorM10
import Derived.Test.YtpbapiphafnipaaDoorM14
import Derived.LaidEql
import Derived.Stop.Asserts
import Derived.RowKitTokens
/- errors.As where a vet.slip is asked for. -/
namespace Go.Proofs.YtpbapiphafnipaaDoor
open Go.RowKit Go.Extern.Stop Go.Stop Go.Extern

theorem vs_valueOf27 (t : Addr) (w : World) : (ReflectliteValue.unpack (.iface 120 (.pointer (some t)))).run Tryd.prog w
    = .ok (.agg #[.pointer (some ⟨2, 120, none⟩), .pointer (some ⟨w.heap.size, 0, none⟩), .int .u64 150]) (w.alloc (.cells #[.pointer (some t)] 120)) := by kernel_rfl
theorem vs_type27 (a : Addr) (w : World) : (ReflectliteValue.methodAny (ReflectliteValue.valueError "reflectlite.Value.Type" 0) (fun t _ _ _ => ReflectliteType.toType t) #[.agg #[.pointer (some ⟨2, 120, none⟩), .pointer (some a), .int .u64 150]]).run Tryd.prog w
    = .ok (.iface 155 (.agg #[.pointer (some ⟨2, 120, none⟩)])) w := by kernel_rfl
theorem vs_methodKind (h : Value) (w : World) : (Go.method 301 155 (.agg #[h]) "Kind").run Tryd.prog w = .ok (89, h) w := by kernel_rfl
theorem vs_kind27 (w : World) : ((ReflectliteType.abiMethod fun t => (fun a : Nat => Value.int IntKind.u8 (a : Int)) <$> Rtype.kind t) #[.pointer (some ⟨2, 120, none⟩)]).run Tryd.prog w = .ok (.int .u8 22) w := by kernel_rfl
theorem vs_kind25 (w : World) : ((ReflectliteType.abiMethod fun t => (fun a : Nat => Value.int IntKind.u8 (a : Int)) <$> Rtype.kind t) #[.pointer (some ⟨2, 92, none⟩)]).run Tryd.prog w = .ok (.int .u8 25) w := by kernel_rfl


theorem vs_rlm (z : Sem Value) (f : TypeId → Addr → Nat → Nat → Sem Value) (v : Value) :
    ReflectliteValue.method z f #[v] = (do match ← ReflectliteValue.parts v with | none => z | some (t, a, fl) => f t a fl (fl % 32)) := rfl
theorem vs_parts27 (a : Addr) (w : World) : (ReflectliteValue.parts (.agg #[.pointer (some ⟨2, 120, none⟩), .pointer (some a), .int .u64 150])).run Tryd.prog w = .ok (some (120, a, 150)) w := by kernel_rfl
theorem vs_isNil27 (a p : Addr) (W : World) (ha : W.cell? a = some (.pointer (some p))) :
    (ReflectliteValue.method (ReflectliteValue.valueError "reflectlite.Value.IsNil" 0) ReflectliteValue.isNil #[.agg #[.pointer (some ⟨2, 120, none⟩), .pointer (some a), .int .u64 150]]).run Tryd.prog W = .ok (.bool false) W := by
  rw [vs_rlm]
  simp only [Sem.run_bind, vs_parts27, Result.andThen]
  simp [ReflectliteValue.isNil, loadVar, isAgg, underlying, Tryd.underlying120, ha, Result.andThen]

theorem vs_methodElem (h : Value) (w : World) : (Go.method 301 155 (.agg #[h]) "Elem").run Tryd.prog w = .ok (109, .agg #[h]) w := by kernel_rfl
theorem vs_methodImplements (h : Value) (w : World) : (Go.method 301 155 (.agg #[h]) "Implements").run Tryd.prog w = .ok (110, .agg #[h]) w := by kernel_rfl
theorem vs_methodAssignableTo (h : Value) (w : World) : (Go.method 301 155 (.agg #[h]) "AssignableTo").run Tryd.prog w = .ok (107, .agg #[h]) w := by kernel_rfl
theorem vs_elem27 (w : World) : (ReflectliteType.method ReflectliteType.elem #[.agg #[.pointer (some ⟨2, 120, none⟩)]]).run Tryd.prog w = .ok (.iface 155 (.agg #[.pointer (some ⟨2, 92, none⟩)])) w := by kernel_rfl
theorem vs_implements25 (w : World) : (ReflectliteType.relation "Implements" ReflectliteType.implements_ #[.agg #[.pointer (some ⟨2, 92, none⟩)], .iface 155 (.agg #[.pointer (some ⟨2, 37, none⟩)])]).run Tryd.prog w = .ok (.bool true) w := by kernel_rfl
theorem vs_typeOf25 (v : Value) (w : World) : (ReflectliteType.typeOf #[.iface 92 v]).run Tryd.prog w = .ok (.iface 155 (.agg #[.pointer (some ⟨2, 92, none⟩)])) w := by kernel_rfl
theorem vs_assignable25 (w : World) : (ReflectliteType.relation "AssignableTo" ReflectliteType.assignableTo #[.agg #[.pointer (some ⟨2, 92, none⟩)], .iface 155 (.agg #[.pointer (some ⟨2, 92, none⟩)])]).run Tryd.prog w = .ok (.bool true) w := by kernel_rfl
theorem vs_valueOf25 (p : Int) (x : Value) (w : World) : (ReflectliteValue.unpack (.iface 92 (.agg #[.int .i64 p, x]))).run Tryd.prog w
    = .ok (.agg #[.pointer (some ⟨2, 92, none⟩), .pointer (some ⟨w.heap.size, 0, none⟩), .int .u64 153]) (w.alloc (.cells #[.int .i64 p, x] 92)) := by kernel_rfl

theorem vs_elemOf27 (w : World) : (Rtype.elem? 120).run Tryd.prog w = .ok (some 92) w := by kernel_rfl
theorem vs_mk25 (p : Addr) (w : World) : (ReflectliteValue.mk 92 p ReflectliteValue.flagAddr).run Tryd.prog w = .ok (.agg #[.pointer (some ⟨2, 92, none⟩), .pointer (some p), .int .u64 409]) w := by kernel_rfl
theorem vs_elemV27 (a p : Addr) (W : World) (ha : W.cell? a = some (.pointer (some p))) :
    (ReflectliteValue.method (ReflectliteValue.valueError "reflectlite.Value.Elem" 0) ReflectliteValue.elem #[.agg #[.pointer (some ⟨2, 120, none⟩), .pointer (some a), .int .u64 150]]).run Tryd.prog W
      = .ok (.agg #[.pointer (some ⟨2, 92, none⟩), .pointer (some p), .int .u64 409]) W := by
  rw [vs_rlm]
  simp only [Sem.run_bind, vs_parts27, Result.andThen]
  simp [ReflectliteValue.elem, loadVar, isAgg, underlying, Tryd.underlying120, ha, Result.andThen, vs_elemOf27, vs_mk25]
theorem vs_rls (v x : Value) : ReflectliteValue.set #[v, x] = (do
    let (some (dst, a, fl), some (src, b, _)) := (← ReflectliteValue.parts v, ← ReflectliteValue.parts x)
      | unsupported (.noEntry "extern/(internal/reflectlite.Value).Set.zeroValue")
    if fl / ReflectliteValue.flagAddr % 2 == 0 then unsupported (.noEntry "extern/(internal/reflectlite.Value).Set.unaddressable")
    let val ← loadVar src b
    if ← Rtype.directlyAssignable dst src then storeVar dst a val
    else if ← Rtype.implements dst src then
      if (← Rtype.kind src) == 20 then
        match val with
        | .nilIface => unsupported (.noEntry "extern/reflectlite: a nil value of one interface type handed on as a value of another")
        | _ => storeVar dst a val
      else storeVar dst a (.iface src val)
    else panicString ("reflectlite.Set: value of type " ++ (← Rtype.spelt src) ++ " is not assignable to type " ++ (← Rtype.spelt dst))
    pure (.tuple #[])) := rfl
theorem vs_parts25a (a : Addr) (w : World) : (ReflectliteValue.parts (.agg #[.pointer (some ⟨2, 92, none⟩), .pointer (some a), .int .u64 409])).run Tryd.prog w = .ok (some (92, a, 409)) w := by kernel_rfl
theorem vs_parts25 (a : Addr) (w : World) : (ReflectliteValue.parts (.agg #[.pointer (some ⟨2, 92, none⟩), .pointer (some a), .int .u64 153])).run Tryd.prog w = .ok (some (92, a, 153)) w := by kernel_rfl
theorem vs_direct25 (w : World) : (Rtype.directlyAssignable 92 92).run Tryd.prog w = .ok true w := by kernel_rfl
theorem vs_size25 (w : World) : (sizeOf 92).run Tryd.prog w = .ok 2 w := by kernel_rfl
theorem vs_set25 (tb bb : Nat) (p k : Int) (o0 o1 : Value) (W : World) (hb : W.heap[bb]? = some (.cells #[.int .i64 p, .iface 42 (.int .i64 k)] 92 (0, 0))) (ht : W.heap[tb]? = some (.cells #[o0, o1] 92 (0, 0))) :
    (ReflectliteValue.set #[.agg #[.pointer (some ⟨2, 92, none⟩), .pointer (some ⟨tb, 0, none⟩), .int .u64 409], .agg #[.pointer (some ⟨2, 92, none⟩), .pointer (some ⟨bb, 0, none⟩), .int .u64 153]]).run Tryd.prog W
      = .ok (.tuple #[]) ((W.setCell ⟨tb, 0, none⟩ (.int .i64 p)).setCell ⟨tb, 1, none⟩ (.iface 42 (.int .i64 k))) := by
  have hb0 : W.cell? ⟨bb, 0, none⟩ = some (.int .i64 p) := by rw [cell_of_row W bb 0 _ _ _ hb]; rfl
  have hb1 : W.cell? ⟨bb, 1, none⟩ = some (.iface 42 (.int .i64 k)) := by rw [cell_of_row W bb 1 _ _ _ hb]; rfl
  have ht0 : W.cell? ⟨tb, 0, none⟩ = some o0 := by rw [cell_of_row W tb 0 _ _ _ ht]; rfl
  have ht1 : (W.setCell ⟨tb, 0, none⟩ (.int .i64 p)).cell? ⟨tb, 1, none⟩ = some o1 := by rw [cell_of_row _ tb 1 _ _ _ (heap_set_same ht _)]; rfl
  have f0 : W.frozen? ⟨tb, 0, none⟩ = false := by simp [World.frozen?, ht]
  have f1 : (W.setCell ⟨tb, 0, none⟩ (.int .i64 p)).frozen? ⟨tb, 1, none⟩ = false := by simp [World.frozen?, heap_set_same ht]
  rw [vs_rls]
  simp only [Sem.run_bind, vs_parts25a, vs_parts25, Result.andThen]
  have hs := vs_size25
  have hl : (loadCells ⟨bb, 0, none⟩ 2).run Tryd.prog W = .ok #[.int .i64 p, .iface 42 (.int .i64 k)] W := by
    simp [loadCells, loadCellsFrom, hb0, hb1, Result.andThen, Addr.add]
  have s0 : (store ⟨tb, 0, none⟩ (.int .i64 p)).run Tryd.prog W = .ok () (W.setCell ⟨tb, 0, none⟩ (.int .i64 p)) := by
    rw [run_store Tryd.prog W _ _ _ (by rfl)]
    simp [ht0, f0]
  have s1 : (store ⟨tb, 1, none⟩ (.iface 42 (.int .i64 k))).run Tryd.prog (W.setCell ⟨tb, 0, none⟩ (.int .i64 p)) = .ok () ((W.setCell ⟨tb, 0, none⟩ (.int .i64 p)).setCell ⟨tb, 1, none⟩ (.iface 42 (.int .i64 k))) := by
    rw [run_store Tryd.prog _ _ _ _ (by rfl)]
    simp [ht1, f1]
  simp only [ReflectliteValue.flagAddr, loadVar, isAgg, underlying, storeVar]
  simp [Tryd.underlying92, hs, hl, s0, s1, Result.andThen, vs_direct25, storeCells, Addr.add, Value.cells]

set_option maxHeartbeats 4000000 in
theorem as_slip (p k : Int) (o0 o1 : Value) (tb : Nat) (w : World) (hg : Laid0 w) (ht : w.heap[tb]? = some (.cells #[o0, o1] 92 (0, 0))) :
    Calls Tryd.prog 52 #[.iface 92 (.agg #[.int .i64 p, .iface 42 (.int .i64 k)]), .iface 120 (.pointer (some ⟨tb, 0, none⟩))] w fun ev w' => ev = .returned (.bool true) ∧ Kp (fun q => q = tb) w w' ∧ w'.heap[tb]? = some (.cells #[.int .i64 p, .iface 42 (.int .i64 k)] 92 (0, 0)) := by
  unfold Laid0 at hg
  have h6 := @run_callFunc_extern Tryd.prog 63 _ (fun args => ReflectliteValue.unpack (args.getD 0 (.tuple #[]))) Tryd.func63 (by kernel_rfl) (by kernel_rfl) (by kernel_rfl) (by kernel_rfl)
  have h7 := @run_callFunc_extern Tryd.prog 64 _ (ReflectliteValue.methodAny (ReflectliteValue.valueError "reflectlite.Value.Type" 0) (fun t _ _ _ => ReflectliteType.toType t)) Tryd.func64 (by kernel_rfl) (by kernel_rfl) (by kernel_rfl) (by kernel_rfl)
  have h8 := @run_callFunc_extern Tryd.prog 65 _ (ReflectliteValue.method (ReflectliteValue.valueError "reflectlite.Value.IsNil" 0) ReflectliteValue.isNil) Tryd.func65 (by kernel_rfl) (by kernel_rfl) (by kernel_rfl) (by kernel_rfl)
  have h27 := @run_callFunc_extern Tryd.prog 89 _ (ReflectliteType.abiMethod fun t => do pure (.int .u8 (← Rtype.kind t))) Tryd.func89 (by kernel_rfl) (by kernel_rfl) (by kernel_rfl) (by kernel_rfl)
  have h37 := @run_callFunc_extern Tryd.prog 109 _ (ReflectliteType.method ReflectliteType.elem) Tryd.func109 (by kernel_rfl) (by kernel_rfl) (by kernel_rfl) (by kernel_rfl)
  have h38 := @run_callFunc_extern Tryd.prog 110 _ (ReflectliteType.relation "Implements" ReflectliteType.implements_) Tryd.func110 (by kernel_rfl) (by kernel_rfl) (by kernel_rfl) (by kernel_rfl)
  have h10 := @run_callFunc_extern Tryd.prog 71 _ ReflectliteType.typeOf Tryd.func71 (by kernel_rfl) (by kernel_rfl) (by kernel_rfl) (by kernel_rfl)
  have h35 := @run_callFunc_extern Tryd.prog 107 _ (ReflectliteType.relation "AssignableTo" ReflectliteType.assignableTo) Tryd.func107 (by kernel_rfl) (by kernel_rfl) (by kernel_rfl) (by kernel_rfl)
  have h11 := @run_callFunc_extern Tryd.prog 72 _ (ReflectliteValue.method (ReflectliteValue.valueError "reflectlite.Value.Elem" 0) ReflectliteValue.elem) Tryd.func72 (by kernel_rfl) (by kernel_rfl) (by kernel_rfl) (by kernel_rfl)
  have h12 := @run_callFunc_extern Tryd.prog 73 _ ReflectliteValue.set Tryd.func73 (by kernel_rfl) (by kernel_rfl) (by kernel_rfl) (by kernel_rfl)
  have tO := vs_typeOf25
  have mA := vs_methodAssignableTo
  have a25 := vs_assignable25
  have v25 := vs_valueOf25
  have f6 := vs_valueOf27
  have f7 := vs_type27
  have mK := vs_methodKind
  have mE := vs_methodElem
  have mI := vs_methodImplements
  have k27 := vs_kind27
  have k25 := vs_kind25
  have e27 := vs_elem27
  have i25 := vs_implements25
  have n8 := vs_isNil27 ⟨w.heap.size, 0, none⟩ ⟨tb, 0, none⟩ ((w.alloc (.cells #[.pointer (some ⟨tb, 0, none⟩)] 120)).alloc (.cells #[.pointer (some ⟨2, 120, none⟩), .pointer (some ⟨w.heap.size, 0, none⟩), .int .u64 150] 140)) (by simp)
  have hlt : 0 < w.heap.size := by
    rcases Nat.eq_zero_or_pos w.heap.size with h0 | h
    · simp [World.cell?, h0] at hg
    · exact h
  have hg2 : ((w.alloc (.cells #[.pointer (some ⟨tb, 0, none⟩)] 120)).alloc (.cells #[.pointer (some ⟨2, 120, none⟩), .pointer (some ⟨w.heap.size, 0, none⟩), .int .u64 150] 140)).cell? ⟨0, 0, none⟩ = some (.iface 155 (.agg #[.pointer (some ⟨2, 37, none⟩)])) := by
    rw [World.cell?_alloc_lt _ _ ⟨0, 0, none⟩ (by simp), World.cell?_alloc_lt _ _ ⟨0, 0, none⟩ hlt]; exact hg
  have htl : tb < w.heap.size := (Array.getElem?_eq_some_iff.1 ht).1
  have el := vs_elemV27 ⟨w.heap.size, 0, none⟩ ⟨tb, 0, none⟩ (((w.alloc (.cells #[.pointer (some ⟨tb, 0, none⟩)] 120)).alloc (.cells #[.pointer (some ⟨2, 120, none⟩), .pointer (some ⟨w.heap.size, 0, none⟩), .int .u64 150] 140)).alloc (.cells #[.pointer (some ⟨2, 120, none⟩), .pointer (some ⟨w.heap.size, 0, none⟩), .int .u64 150] 140)) (by rw [World.cell?_alloc_lt _ _ ⟨w.heap.size, 0, none⟩ (by simp; omega)]; simp)
  obtain ⟨w4, hw4⟩ : ∃ w4, (((w.alloc (.cells #[.pointer (some ⟨tb, 0, none⟩)] 120)).alloc (.cells #[.pointer (some ⟨2, 120, none⟩), .pointer (some ⟨w.heap.size, 0, none⟩), .int .u64 150] 140)).alloc (.cells #[.pointer (some ⟨2, 120, none⟩), .pointer (some ⟨w.heap.size, 0, none⟩), .int .u64 150] 140)).alloc (.cells #[.int .i64 p, .iface 42 (.int .i64 k)] 92) = w4 := ⟨_, rfl⟩
  have hk4 : Kp (fun _ => False) w w4 := by rw [← hw4]; exact ((((Kp.refl _ w).alloc _).alloc _).alloc _).alloc _
  have hb4 : w4.heap[w.heap.size + 1 + 1 + 1]? = some (.cells #[.int .i64 p, .iface 42 (.int .i64 k)] 92 (0, 0)) := by
    rw [← hw4]
    have := heap_alloc_new (((w.alloc (.cells #[.pointer (some ⟨tb, 0, none⟩)] 120)).alloc (.cells #[.pointer (some ⟨2, 120, none⟩), .pointer (some ⟨w.heap.size, 0, none⟩), .int .u64 150] 140)).alloc (.cells #[.pointer (some ⟨2, 120, none⟩), .pointer (some ⟨w.heap.size, 0, none⟩), .int .u64 150] 140)) (.cells #[.int .i64 p, .iface 42 (.int .i64 k)] 92)
    simpa using this
  have ht4 := (hk4.block tb htl (fun e => e)).trans ht
  have st := vs_set25 tb (w.heap.size + 1 + 1 + 1) p k o0 o1 w4 hb4 ht4
  rw [← hw4] at st
  have H4 := Lib.hid (And.intro hk4 (And.intro ht4 hw4))
  clear hk4 hb4 ht4 hw4 ht
  go_enter Tryd.func52, Tryd.ntmps52
  go_wp2
  refine wp_loop_rounds 1 ?_
  rw [rounds_succ]
  go_wp2
  go_ret
  rw [H4.out.2.2]
  exact ⟨rfl, ((H4.out.1.mono fun _ _ e => e.elim : Kp (fun q => q = tb) w w4).setCell _ _ (.inl rfl)).setCell _ _ (.inl rfl), heap_set_same (heap_set_same H4.out.2.1 _) _⟩
end Go.Proofs.YtpbapiphafnipaaDoor

/- errors.As of a kind, where a vet.slip is asked for: it is none. -/
namespace Go.Proofs.YtpbapiphafnipaaDoor
open Go.RowKit Go.Extern.Stop Go.Stop Go.Extern

theorem vs_typeOfE (v : Value) (w : World) : (ReflectliteType.typeOf #[.iface 42 v]).run Tryd.prog w = .ok (.iface 155 (.agg #[.pointer (some ⟨2, 42, none⟩)])) w := by kernel_rfl
theorem vs_assignableE (w : World) : (ReflectliteType.relation "AssignableTo" ReflectliteType.assignableTo #[.agg #[.pointer (some ⟨2, 42, none⟩)], .iface 155 (.agg #[.pointer (some ⟨2, 92, none⟩)])]).run Tryd.prog w = .ok (.bool false) w := by kernel_rfl
theorem vs_asE (v : Value) (xT : TypeId) (w : World) : (Instr.typeAssert (.iface 42 v) xT 160 true).run Tryd.prog w = .ok (.tuple #[.nilIface, .bool false]) w := run_typeAssert_lacksB Tryd.underlying160 (by kernel_rfl) (by kernel_rfl) v xT w
theorem vs_unE (v : Value) (xT : TypeId) (w : World) : (Instr.typeAssert (.iface 42 v) xT 163 true).run Tryd.prog w = .ok (.tuple #[.nilIface, .bool false]) w := run_typeAssert_lacksB Tryd.underlying163 (by kernel_rfl) (by kernel_rfl) v xT w
theorem vs_unsE (v : Value) (xT : TypeId) (w : World) : (Instr.typeAssert (.iface 42 v) xT 165 true).run Tryd.prog w = .ok (.tuple #[.nilIface, .bool false]) w := run_typeAssert_lacksB Tryd.underlying165 (by kernel_rfl) (by kernel_rfl) v xT w
set_option maxHeartbeats 4000000 in
theorem as_errno (k : Int) (o0 o1 : Value) (tb : Nat) (w : World) (hg : Laid0 w) (ht : w.heap[tb]? = some (.cells #[o0, o1] 92 (0, 0))) :
    Calls Tryd.prog 52 #[.iface 42 (.int .i64 k), .iface 120 (.pointer (some ⟨tb, 0, none⟩))] w fun ev w' => ev = .returned (.bool false) ∧ Kp (fun _ => False) w w' := by
  unfold Laid0 at hg
  have h6 := @run_callFunc_extern Tryd.prog 63 _ (fun args => ReflectliteValue.unpack (args.getD 0 (.tuple #[]))) Tryd.func63 (by kernel_rfl) (by kernel_rfl) (by kernel_rfl) (by kernel_rfl)
  have h7 := @run_callFunc_extern Tryd.prog 64 _ (ReflectliteValue.methodAny (ReflectliteValue.valueError "reflectlite.Value.Type" 0) (fun t _ _ _ => ReflectliteType.toType t)) Tryd.func64 (by kernel_rfl) (by kernel_rfl) (by kernel_rfl) (by kernel_rfl)
  have h8 := @run_callFunc_extern Tryd.prog 65 _ (ReflectliteValue.method (ReflectliteValue.valueError "reflectlite.Value.IsNil" 0) ReflectliteValue.isNil) Tryd.func65 (by kernel_rfl) (by kernel_rfl) (by kernel_rfl) (by kernel_rfl)
  have h27 := @run_callFunc_extern Tryd.prog 89 _ (ReflectliteType.abiMethod fun t => do pure (.int .u8 (← Rtype.kind t))) Tryd.func89 (by kernel_rfl) (by kernel_rfl) (by kernel_rfl) (by kernel_rfl)
  have h37 := @run_callFunc_extern Tryd.prog 109 _ (ReflectliteType.method ReflectliteType.elem) Tryd.func109 (by kernel_rfl) (by kernel_rfl) (by kernel_rfl) (by kernel_rfl)
  have h38 := @run_callFunc_extern Tryd.prog 110 _ (ReflectliteType.relation "Implements" ReflectliteType.implements_) Tryd.func110 (by kernel_rfl) (by kernel_rfl) (by kernel_rfl) (by kernel_rfl)
  have h10 := @run_callFunc_extern Tryd.prog 71 _ ReflectliteType.typeOf Tryd.func71 (by kernel_rfl) (by kernel_rfl) (by kernel_rfl) (by kernel_rfl)
  have h35 := @run_callFunc_extern Tryd.prog 107 _ (ReflectliteType.relation "AssignableTo" ReflectliteType.assignableTo) Tryd.func107 (by kernel_rfl) (by kernel_rfl) (by kernel_rfl) (by kernel_rfl)
  have h11 := @run_callFunc_extern Tryd.prog 72 _ (ReflectliteValue.method (ReflectliteValue.valueError "reflectlite.Value.Elem" 0) ReflectliteValue.elem) Tryd.func72 (by kernel_rfl) (by kernel_rfl) (by kernel_rfl) (by kernel_rfl)
  have h12 := @run_callFunc_extern Tryd.prog 73 _ ReflectliteValue.set Tryd.func73 (by kernel_rfl) (by kernel_rfl) (by kernel_rfl) (by kernel_rfl)
  have tO := vs_typeOfE
  have mA := vs_methodAssignableTo
  have a25 := vs_assignableE
  have f6 := vs_valueOf27
  have f7 := vs_type27
  have mK := vs_methodKind
  have mE := vs_methodElem
  have mI := vs_methodImplements
  have k27 := vs_kind27
  have k25 := vs_kind25
  have e27 := vs_elem27
  have i25 := vs_implements25
  have n8 := vs_isNil27 ⟨w.heap.size, 0, none⟩ ⟨tb, 0, none⟩ ((w.alloc (.cells #[.pointer (some ⟨tb, 0, none⟩)] 120)).alloc (.cells #[.pointer (some ⟨2, 120, none⟩), .pointer (some ⟨w.heap.size, 0, none⟩), .int .u64 150] 140)) (by simp)
  have hlt : 0 < w.heap.size := by
    rcases Nat.eq_zero_or_pos w.heap.size with h0 | h
    · simp [World.cell?, h0] at hg
    · exact h
  have hg2 : ((w.alloc (.cells #[.pointer (some ⟨tb, 0, none⟩)] 120)).alloc (.cells #[.pointer (some ⟨2, 120, none⟩), .pointer (some ⟨w.heap.size, 0, none⟩), .int .u64 150] 140)).cell? ⟨0, 0, none⟩ = some (.iface 155 (.agg #[.pointer (some ⟨2, 37, none⟩)])) := by
    rw [World.cell?_alloc_lt _ _ ⟨0, 0, none⟩ (by simp), World.cell?_alloc_lt _ _ ⟨0, 0, none⟩ hlt]; exact hg
  have htl : tb < w.heap.size := (Array.getElem?_eq_some_iff.1 ht).1
  have q1 := vs_asE (.int .i64 k) 37
  have q2 := vs_unE (.int .i64 k) 37
  have q3 := vs_unsE (.int .i64 k) 37
  go_enter Tryd.func52, Tryd.ntmps52
  go_wp2
  refine wp_loop_rounds 1 ?_
  rw [rounds_succ]
  go_wp2
  go_ret
  refine ⟨rfl, ?_⟩
  repeat first | exact Kp.refl _ _ | refine Kp.alloc ?_ _ | refine Kp.setCell ?_ _ _ (.inr (by simp [World.alloc] <;> omega))
end Go.Proofs.YtpbapiphafnipaaDoor

/- What is wrong with a function as a chain. -/
namespace Go.Proofs.YtpbapiphafnipaaDoor
open Go.RowKit

theorem laid0_kp {w w' : World} (h : Laid0 w) (hk : Kp (fun _ => False) w w') : Laid0 w' := (hk.cell (World.block_lt_of_cell? _ _ h) (fun e => e)).trans h

set_option maxRecDepth 100000 in
set_option maxHeartbeats 4000000 in
theorem placed_slip (p k : Int) (hk : k ≠ 0) (w : World) (hg : Laid0 w) :
    Calls Tryd.prog 38 #[.iface 92 (.agg #[.int .i64 p, .iface 42 (.int .i64 k)])] w (EBad w id [Lk.fault ⟨#[97, 116]⟩ p, Lk.kind k]) := by
  obtain ⟨w1, hw1⟩ : ∃ w1, w.alloc (.cells #[.int .i64 0, .nilIface] 92) = w1 := ⟨_, rfl⟩
  have hk1 : Kp (fun _ => False) w w1 := by rw [← hw1]; exact (Kp.refl _ w).alloc _
  have hb : w1.heap[w.heap.size]? = some (.cells #[.int .i64 0, .nilIface] 92 (0, 0)) := by rw [← hw1]; exact heap_alloc_new w _
  have hg1 : Laid0 w1 := laid0_kp hg hk1
  have HA := as_slip p k _ _ w.heap.size w1 hg1 hb
  have H := Lib.hid (And.intro hk hk1)
  clear hk hk1 hb hg hg1
  go_enter Tryd.func38, Tryd.ntmps38
  go_wp2_with fail
  refine HA.mono ?_
  rintro e w2 ⟨rfl, hk2, hb2⟩
  have hk02 : Kp (fun _ => False) w w2 := H.out.2.trans (hk2.mono fun q hq e => .inr (by omega))
  have y0 : w2.cell? ⟨w.heap.size, 0, none⟩ = some (.int .i64 p) := by rw [cell_of_row w2 _ _ _ _ _ hb2]; rfl
  have y1 : w2.cell? ⟨w.heap.size, 1, none⟩ = some (.iface 42 (.int .i64 k)) := by rw [cell_of_row w2 _ _ _ _ _ hb2]; rfl
  have HB := at_any ⟨#[97, 116]⟩ p 42 (.int .i64 k) w2
  have H2 := Lib.hid (And.intro hk02 hb2)
  clear hk2 hk02 hb2
  go_wp2_with fail
  refine HB.mono ?_
  rintro e w3 ⟨rfl, rfl⟩
  go_wp2_with fail
  go_ret
  exact EBad.drew (ebad1 w2 id ⟨#[97, 116]⟩ p k H.out.1 0) H2.out.1

set_option maxRecDepth 100000 in
set_option maxHeartbeats 4000000 in
theorem placed_kind (k : Int) (w : World) (hg : Laid0 w) :
    Calls Tryd.prog 38 #[.iface 42 (.int .i64 k)] w fun e w' => e = .returned (.iface 42 (.int .i64 k)) ∧ Kp (fun _ => False) w w' := by
  obtain ⟨w1, hw1⟩ : ∃ w1, w.alloc (.cells #[.int .i64 0, .nilIface] 92) = w1 := ⟨_, rfl⟩
  have hk1 : Kp (fun _ => False) w w1 := by rw [← hw1]; exact (Kp.refl _ w).alloc _
  have hb : w1.heap[w.heap.size]? = some (.cells #[.int .i64 0, .nilIface] 92 (0, 0)) := by rw [← hw1]; exact heap_alloc_new w _
  have hg1 : Laid0 w1 := laid0_kp hg hk1
  have HA := as_errno k _ _ w.heap.size w1 hg1 hb
  have H := Lib.hid hk1
  clear hk1 hb hg hg1
  go_enter Tryd.func38, Tryd.ntmps38
  go_wp2_with fail
  refine HA.mono ?_
  rintro e w2 ⟨rfl, hk2⟩
  have H2 := Lib.hid (H.out.trans' hk2)
  clear hk2
  go_wp2_with fail
  go_ret
  exact ⟨rfl, H2.out⟩
end Go.Proofs.YtpbapiphafnipaaDoor

/- Whether one of the functions has this name. -/
namespace Go.Proofs.YtpbapiphafnipaaDoor
open Go.RowKit

def vnamed (fns : List Fn4) (nm : ByteArray) : Bool := fns.any fun f => decide (f.name = nm)
theorem vnamed_yes {fns : List Fn4} {nm : ByteArray} {j : Nat} {f : Fn4} (h : fns[j]? = some f) (he : f.name = nm) : vnamed fns nm = true :=
  List.any_eq_true.2 ⟨f, List.mem_of_getElem? h, by simp [he]⟩
theorem vnamed_no {fns : List Fn4} {nm : ByteArray} (h : ∀ (i : Nat) (f : Fn4), fns[i]? = some f → f.name ≠ nm) : vnamed fns nm = false := by
  unfold vnamed
  rw [List.any_eq_false]
  intro f hf
  obtain ⟨i, hi⟩ := List.getElem?_of_mem hf
  simp [h i f hi]
theorem vname_ne {s t : ByteArray} (h : s ≠ t) : (s.toList == t.toList) = false := by
  rw [beq_eq_false_iff_ne]
  intro e
  apply h
  rw [ByteArray.toList_eq, ByteArray.toList_eq] at e
  exact ByteArray.ext (Array.ext' e)

theorem FnsAt.take {F : Nat → Prop} {w : World} {l : List Fn4} {po : Option Addr} {cap : Nat} (h : FnsAt F w l (.slice po l.length cap)) (i : Nat) (hi : i ≤ l.length) : FnsAt F w (l.take i) (.slice po i cap) := by
  obtain ⟨po', cap', e, h1, h2, h3⟩ := h
  simp only [Value.slice.injEq] at e
  obtain ⟨rfl, -, rfl⟩ := e
  refine ⟨po, cap, by rw [List.length_take, Nat.min_eq_left hi], by rw [List.length_take]; omega, by rw [List.length_take]; omega, fun k f hf => ?_⟩
  refine h3 k f ?_
  rw [List.getElem?_take] at hf
  split at hf
  · exact hf
  · cases hf

set_option maxRecDepth 100000 in
set_option maxHeartbeats 4000000 in
theorem named_any {F : Nat → Prop} {w : World} {fns : List Fn4} {pf : Option Addr} {n cf : Nat} (h : FnsAt F w fns (.slice pf n cf)) (hF : ∀ q, F q → q < w.heap.size) (nm : ByteArray) :
    Calls Tryd.prog 49 #[.slice pf n cf, .string nm] w fun e w' => e = .returned (.bool (vnamed fns nm)) ∧ Kp (fun _ => False) w w' := by
  obtain ⟨pf', cf', e, h1, h2, h3⟩ := h
  simp only [Value.slice.injEq] at e
  obtain ⟨rfl, rfl, rfl⟩ := e
  have H := Lib.hid (And.intro h3 (And.intro hF h2))
  have hn : fns.length ≤ 140737488351232 := by omega
  clear h3 hF h2 h1
  go_enter Tryd.func49, Tryd.ntmps49
  go_wp2_with fail
  go_loopg [9] fns.length (fun gk jj wr => ∃ j : Nat, j ≤ fns.length ∧ gk = fns.length - j ∧ jj = .int .i64 j ∧ (∀ (i : Nat) (f : Fn4), i < j → fns[i]? = some f → f.name ≠ nm) ∧ Kp (fun _ => False) w wr)
  case atStart => exact ⟨0, by omega, rfl, rfl, fun i f hi => by omega, Kp.refl _ _⟩
  case round =>
    obtain ⟨j, hj, hgk, rfl, hno, hk⟩ := hrel
    by_cases hlt : j < fns.length
    · obtain ⟨f, hjf⟩ : ∃ f, fns[j]? = some f := ⟨fns[j], List.getElem?_eq_getElem hlt⟩
      obtain ⟨b, off, q0, q1, q2, q3, rfl, hb, a0, a1, a2, a3, vc, hq, -, -, -, hcf⟩ := H.out.1 j f hjf
      obtain ⟨pc, nc, cc, rfl⟩ := hcf.form
      clear hcf
      simp only [List.cons.injEq, and_true] at hq
      obtain ⟨rfl, rfl, rfl, rfl⟩ := hq
      have kc : ∀ i u, w.cell? ⟨b, i, none⟩ = some u → wr.cell? ⟨b, i, none⟩ = some u := fun i u e => (hk.cell (World.block_lt_of_cell? _ _ e) (fun e => e)).trans e
      have x0 := kc _ _ a0
      have x1 := kc _ _ a1
      have x2 := kc _ _ a2
      have x3 := kc _ _ a3
      have hli : (j : Int) < fns.length := by omega
      obtain ⟨wq, hwq⟩ : ∃ wq, wr.alloc (.cells #[.string f.name, .int .i64 f.args, .int .i64 f.slots, .slice pc nc cc] 32) = wq := ⟨_, rfl⟩
      have hkq : Kp (fun _ => False) wr wq := by rw [← hwq]; exact (Kp.refl _ wr).alloc _
      have hbq : wq.heap[wr.heap.size]? = some (.cells #[.string f.name, .int .i64 f.args, .int .i64 f.slots, .slice pc nc cc] 32 (0, 0)) := by rw [← hwq]; exact heap_alloc_new wr _
      have y0 : wq.cell? ⟨wr.heap.size, 0, none⟩ = some (.string f.name) := by rw [cell_of_row wq _ 0 _ _ _ hbq]; rfl
      by_cases hnm : f.name = nm
      · have H6 := Lib.hid (And.intro (hk.trans' hkq) (vnamed_yes hjf hnm))
        subst hnm
        clear hk hkq hbq kc a0 a1 a2 a3 hno hjf
        go_wp2_with fail
        go_ret
        exact ⟨by rw [H6.out.2]; rfl, H6.out.1⟩
      · have H6 := Lib.hid (And.intro (hk.trans' hkq) (And.intro hno (And.intro hnm hjf)))
        have hne := vname_ne hnm
        clear hk hkq hbq kc a0 a1 a2 a3 hno hjf
        go_wp2_with fail
        go_roundg (fns.length - (j + 1))
        case measure => omega
        case rel => exact ⟨j + 1, by omega, rfl, by go_num, fun i f' hi hf' => by
          rcases Nat.lt_or_ge i j with h1 | h1
          · exact H6.out.2.1 i f' h1 hf'
          · obtain rfl : i = j := by omega
            obtain rfl := Option.some.inj (H6.out.2.2.2.symm.trans hf')
            exact H6.out.2.2.1, H6.out.1⟩
    · have hlt' : ¬ (j : Int) < fns.length := by omega
      have H6 := Lib.hid (And.intro hk (vnamed_no (fns := fns) (nm := nm) fun i f hf => hno i f (by have := (List.getElem?_eq_some_iff.1 hf).1; omega) hf))
      clear hk hno
      go_wp2_with fail
      go_ret
      exact ⟨by rw [H6.out.2]; rfl, H6.out.1⟩
end Go.Proofs.YtpbapiphafnipaaDoor
