/- An instruction's operands. An instruction, by its operands. -/
import Derived.Test.YtpdepmkojbpklaaDoorM15
import Derived.BigQuiet
/- An instruction's operands. -/
namespace Go.Proofs.YtpdepmkojbpklaaDoor
open Go.RowKit

/-- an error of a kind, or none -/
def errv : Option Int → Value
  | none => .nilIface
  | some k => .iface 42 (.int .i64 k)
def vrng (n lo hi k : Int) : Option Int := if lo ≤ n ∧ n ≤ hi then none else some k
/-- what is wrong with an operand that is to be such a thing (a number of the table of functions apart) -/
def vop (nl nf nc : Nat) (sl what n : Int) : Option Int :=
  if what = 2 ∧ 64 ≤ n then vrng n 64 (64 + nl - 1) 12
  else if (what = 2 ∨ what = 1) ∧ 16 ≤ n then vrng n 16 (16 + sl - 1) 12
  else if what = 2 ∨ what = 1 ∨ what = 3 then vrng n 0 15 12
  else if what = 6 then vrng n 0 ((nf : Int) - 1) 12
  else if what = 4 then vrng n 0 ((nc : Int) - 1) 13
  else if what = 7 then vrng n 1 9 1
  else if what = 8 then vrng n 0 16 1
  else if what = 9 then vrng n 0 65536 1
  else vrng n 0 0 1

theorem vin_any (n lo hi : Int) (w : World) : Calls Tryd.prog 35 #[.int .i64 n, .int .i64 lo, .int .i64 hi] w fun e w' => e = .returned (.bool (wi n lo hi)) ∧ w = w' := by
  by_cases h1 : lo ≤ n
  · by_cases h2 : n ≤ hi
    · have hw : wi n lo hi = true := wi_true.2 ⟨h1, h2⟩
      rw [hw]
      go_enter Tryd.func35, Tryd.ntmps35
      go_wp2_with fail
      go_ret
      exact ⟨rfl, rfl⟩
    · have hw : wi n lo hi = false := by simp [wi, h2]
      rw [hw]
      go_enter Tryd.func35, Tryd.ntmps35
      go_wp2_with fail
      go_ret
      exact ⟨rfl, rfl⟩
  · have hw : wi n lo hi = false := by simp [wi, h1]
    rw [hw]
    go_enter Tryd.func35, Tryd.ntmps35
    go_wp2_with fail
    go_ret
    exact ⟨rfl, rfl⟩
theorem wants_any (n lo hi k : Int) (w : World) : Calls Tryd.prog 69 #[.int .i64 n, .int .i64 lo, .int .i64 hi, .int .i64 k] w fun e w' => e = .returned (errv (vrng n lo hi k)) ∧ w = w' := by
  by_cases h : lo ≤ n ∧ n ≤ hi
  · have hv : vrng n lo hi k = none := by unfold vrng; rw [if_pos h]
    have hw : wi n lo hi = true := wi_true.2 h
    rw [hv]
    go_enter Tryd.func69, Tryd.ntmps69
    go_wp2_with fail
    refine (vin_any n lo hi w).mono ?_
    rintro e w2 ⟨rfl, rfl⟩
    rw [hw]
    go_wp2_with fail
    go_ret
    exact ⟨rfl, rfl⟩
  · have hv : vrng n lo hi k = some k := by unfold vrng; rw [if_neg h]
    have hw : wi n lo hi = false := by
      rcases hb : wi n lo hi with _ | _
      · rfl
      · exact absurd (wi_true.1 hb) h
    rw [hv]
    go_enter Tryd.func69, Tryd.ntmps69
    go_wp2_with fail
    refine (vin_any n lo hi w).mono ?_
    rintro e w2 ⟨rfl, rfl⟩
    rw [hw]
    go_wp2_with fail
    go_ret
    exact ⟨rfl, rfl⟩
/-- what a reader of instructions holds -/
structure RdAt (w : World) (R : Nat) (pl : Option Addr) (nl cl : Nat) (pf : Option Addr) (nf cf : Nat) (sl : Int) (pc : Option Addr) (nc cc : Nat) : Prop where
  lits : w.cell? ⟨R, 1, none⟩ = some (.slice pl nl cl)
  funcs : w.cell? ⟨R, 2, none⟩ = some (.slice pf nf cf)
  slots : w.cell? ⟨R, 5, none⟩ = some (.int .i64 sl)
  code : w.cell? ⟨R, 6, none⟩ = some (.slice pc nc cc)
set_option maxRecDepth 100000 in
set_option maxHeartbeats 4000000 in
theorem operand_vet {w : World} {R : Nat} {pl : Option Addr} {nl cl : Nat} {pf : Option Addr} {nf cf : Nat} {sl : Int} {pc : Option Addr} {nc cc : Nat} (h : RdAt w R pl nl cl pf nf cf sl pc nc cc) (hnl : nl ≤ 100000) (hnf : nf ≤ 100000) (hnc : nc ≤ 100000) (hs0 : 0 ≤ sl) (hs1 : sl ≤ 32) (what n : Int) (h5 : what ≠ 5) (hw1 : 0 ≤ what) (hw2 : what ≤ 9) :
    Calls Tryd.prog 61 #[.pointer (some ⟨R, 0, none⟩), .int .i64 what, .int .i64 n] w fun e w' => e = .returned (errv (vop nl nf nc sl what n)) ∧ w = w' := by
  obtain ⟨l1, l2, l3, l4⟩ := h
  have hc : what = 0 ∨ what = 1 ∨ what = 2 ∨ what = 3 ∨ what = 4 ∨ what = 6 ∨ what = 7 ∨ what = 8 ∨ what = 9 := by omega
  clear h5 hw1 hw2
  rcases hc with rfl | rfl | rfl | rfl | rfl | rfl | rfl | rfl | rfl
  · go_enter Tryd.func61, Tryd.ntmps61
    go_wp2_with fail
    refine (wants_any _ _ _ _ w).mono ?_
    rintro e w2 ⟨rfl, rfl⟩
    go_wp2_with fail
    go_ret
    exact ⟨by simp [vop], rfl⟩
  · by_cases hn : 16 ≤ n
    · have hv : vop nl nf nc sl 1 n = vrng n 16 (16 + sl - 1) 12 := by simp [vop, hn]
      rw [hv]
      go_enter Tryd.func61, Tryd.ntmps61
      go_wp2_with fail
      refine (wants_any _ _ _ _ w).mono ?_
      rintro e w2 ⟨rfl, rfl⟩
      go_wp2_with fail
      go_ret
      exact ⟨rfl, rfl⟩
    · have hv : vop nl nf nc sl 1 n = vrng n 0 15 12 := by simp [vop, hn]
      rw [hv]
      go_enter Tryd.func61, Tryd.ntmps61
      go_wp2_with fail
      refine (wants_any _ _ _ _ w).mono ?_
      rintro e w2 ⟨rfl, rfl⟩
      go_wp2_with fail
      go_ret
      exact ⟨rfl, rfl⟩
  · by_cases hn6 : 64 ≤ n
    · have hv : vop nl nf nc sl 2 n = vrng n 64 (64 + (nl : Int) - 1) 12 := by simp [vop, hn6]
      rw [hv]
      go_enter Tryd.func61, Tryd.ntmps61
      go_wp2_with fail
      refine (wants_any _ _ _ _ w).mono ?_
      rintro e w2 ⟨rfl, rfl⟩
      go_wp2_with fail
      go_ret
      exact ⟨rfl, rfl⟩
    · by_cases hn : 16 ≤ n
      · have hv : vop nl nf nc sl 2 n = vrng n 16 (16 + sl - 1) 12 := by simp [vop, hn, hn6]
        rw [hv]
        go_enter Tryd.func61, Tryd.ntmps61
        go_wp2_with fail
        refine (wants_any _ _ _ _ w).mono ?_
        rintro e w2 ⟨rfl, rfl⟩
        go_wp2_with fail
        go_ret
        exact ⟨rfl, rfl⟩
      · have hv : vop nl nf nc sl 2 n = vrng n 0 15 12 := by simp [vop, hn, hn6]
        rw [hv]
        go_enter Tryd.func61, Tryd.ntmps61
        go_wp2_with fail
        refine (wants_any _ _ _ _ w).mono ?_
        rintro e w2 ⟨rfl, rfl⟩
        go_wp2_with fail
        go_ret
        exact ⟨rfl, rfl⟩
  all_goals
    go_enter Tryd.func61, Tryd.ntmps61
    go_wp2_with fail
    refine (wants_any _ _ _ _ w).mono ?_
    rintro e w2 ⟨rfl, rfl⟩
    go_wp2_with fail
    go_ret
    exact ⟨by simp [vop], rfl⟩
end Go.Proofs.YtpdepmkojbpklaaDoor

/- An instruction, by its operands. -/
namespace Go.Proofs.YtpdepmkojbpklaaDoor
open Go.RowKit

section
variable {P : Program} {w : World}
theorem vrun_fn {a : Act} {f : FuncId} {xs : Array Operand} {ts : Array TypeId} {o : Oper} (ho : o.op = .call { callee := .value (.func f), args := xs, argTypes := ts })
    (hcf : ∀ (args : Array Value) (w : World), (callFunc f args).run P w = .ok (.enter f args) w) {vs : Array Value} (hx : xs.map a.eval = vs) : (execOp a.eval o).run P w = .ok (.enter f vs) w := by
  have hev : a.eval (.func f) = .func (.func f) #[] #[] := rfl
  unfold execOp
  simp only [ho, resolve, invoke, hx, hev, Deferred.ofValue]
  simp [hcf]
theorem vstep_fn {ops : Array Oper} {o : Oper} {a : Act} {K : Act → World → Prop} {Q : Exit → Act → World → Prop} {E : Prop} (hgd : o.guard = none) (f : FuncId) (xs : Array Operand) (ts : Array TypeId)
    (ho : o.op = .call { callee := .value (.func f), args := xs, argTypes := ts }) (hcf : ∀ (args : Array Value) (w : World), (callFunc f args).run P w = .ok (.enter f args) w) (vs : Array Value) (hx : xs.map a.eval = vs)
    (h : Calls P f vs w fun e w' => ∃ v, e = .returned v ∧ K (a.put o.dst v) w') : if Region.wanted o (yielded ops a.tmps) = true then Oper.wp P o a w K Q else E := by
  have hw : Region.wanted o (yielded ops a.tmps) = true := by simp [Region.wanted, hgd]
  rw [if_pos hw]
  unfold Oper.wp
  rw [vrun_fn ho hcf hx, Oper.upon_enter]
  refine h.mono ?_
  rintro e w' ⟨v, rfl, hK⟩
  exact hK
end
/-- the first register that is used, and how many (ar: the Args of the function that is named) -/
def vregs (x : In4) (ar : Int) : Int × Int := if x.op = 2 then (x.b, x.c) else if x.op = 16 then (x.c, ar) else if x.op = 37 then (x.b, 3) else (0, 0)
theorem kp_drewN {F : Nat → Prop} {w w' : World} (h : Kp F w w') (k : Nat) : Kp F w (w'.drewN k) := ⟨h.os, h.tape, h.output, h.size, h.block⟩
set_option maxRecDepth 100000 in
set_option maxHeartbeats 4000000 in
theorem registers_vet {w : World} {R : Nat} {pl : Option Addr} {nl cl : Nat} {pf : Option Addr} {nf cf : Nat} {sl : Int} {pc : Option Addr} {nc cc : Nat} (h : RdAt w R pl nl cl pf nf cf sl pc nc cc) (x : In4) (ar : Int) (h12 : x.op ≠ 12)
    (hf : x.op = 16 → ∃ (k b off : Nat), x.b = k ∧ k < nf ∧ pf = some ⟨b, off, none⟩ ∧ w.cell? ⟨b, off + k * 4 + 1, none⟩ = some (.int .i64 ar)) :
    Calls Tryd.prog 62 #[.pointer (some ⟨R, 0, none⟩), .agg #[.int .i64 x.op, .int .i64 x.a, .int .i64 x.b, .int .i64 x.c]] w fun e w' => e = .returned (.tuple #[.int .i64 (vregs x ar).1, .int .i64 (vregs x ar).2]) ∧ Kp (fun _ => False) w w' := by
  obtain ⟨op, a, b, c⟩ := x
  simp only at h12 hf ⊢
  obtain ⟨w1, hw1⟩ : ∃ w1, w.alloc (.cells #[.int .i64 op, .int .i64 a, .int .i64 b, .int .i64 c] 29) = w1 := ⟨_, rfl⟩
  have hk1 : Kp (fun _ => False) w w1 := by rw [← hw1]; exact (Kp.refl _ w).alloc _
  have hb : w1.heap[w.heap.size]? = some (.cells #[.int .i64 op, .int .i64 a, .int .i64 b, .int .i64 c] 29 (0, 0)) := by rw [← hw1]; exact heap_alloc_new w _
  obtain ⟨y0, y1, y2, y3, yf⟩ := vfour_facts hb
  obtain ⟨l1, l2, l3, l4⟩ := h
  have k2 : w1.cell? ⟨R, 2, none⟩ = some (.slice pf nf cf) := (hk1.cell (World.block_lt_of_cell? _ _ l2) (fun e => e)).trans l2
  by_cases c2 : op = 2
  · subst c2
    have hv : vregs ⟨2, a, b, c⟩ ar = (b, c) := by simp [vregs]
    rw [hv]
    have H := Lib.hid hk1
    clear hk1 hb hf l1 l2 l3 l4
    go_enter Tryd.func62, Tryd.ntmps62
    go_wp2_with fail
    go_quiet (fail)
    go_wp2_with fail
    go_ret2
    exact ⟨rfl, kp_drewN H.out _⟩
  by_cases c16 : op = 16
  · subst c16
    have hv : vregs ⟨16, a, b, c⟩ ar = (c, ar) := by simp [vregs]
    rw [hv]
    obtain ⟨k, fb, off, rfl, hkn, rfl, hca⟩ := hf rfl
    have hkc : w1.cell? ⟨fb, off + k * 4 + 1, none⟩ = some (.int .i64 ar) := (hk1.cell (World.block_lt_of_cell? _ _ hca) (fun e => e)).trans hca
    have hki : (k : Int) < nf := by omega
    have H := Lib.hid hk1
    clear hk1 hb hf l1 l2 l3 l4 hca
    go_enter Tryd.func62, Tryd.ntmps62
    go_wp2_with fail
    go_quiet (fail)
    go_wp2_with fail
    go_ret2
    exact ⟨rfl, kp_drewN H.out _⟩
  by_cases c37 : op = 37
  · subst c37
    have hv : vregs ⟨37, a, b, c⟩ ar = (b, 3) := by simp [vregs]
    rw [hv]
    have H := Lib.hid hk1
    clear hk1 hb hf l1 l2 l3 l4
    go_enter Tryd.func62, Tryd.ntmps62
    go_wp2_with fail
    go_ret2
    exact ⟨rfl, H.out⟩
  · have hv : vregs ⟨op, a, b, c⟩ ar = (0, 0) := by simp [vregs, c2, c16, c37]
    rw [hv]
    have H := Lib.hid hk1
    clear hk1 hb hf l1 l2 l3 l4
    go_enter Tryd.func62, Tryd.ntmps62
    go_wp2_with fail
    go_ret2
    exact ⟨rfl, H.out⟩
/-- what each operand of an Op is to be -/
def vsh (op : Int) (i : Nat) : Int :=
  (([[0, 0, 0], [1, 2, 0], [1, 3, 8], [1, 2, 2], [4, 0, 0], [2, 2, 4], [2, 2, 4], [2, 7, 4], [2, 9, 4], [1, 2, 9], [1, 2, 0], [1, 2, 0], [5, 1, 3], [6, 0, 0], [6, 0, 0], [0, 0, 0], [1, 6, 3], [2, 2, 0], [1, 4, 0], [0, 0, 0], [4, 0, 0], [4, 0, 0], [4, 2, 0], [1, 0, 0], [4, 0, 0], [0, 0, 0], [2, 0, 0], [2, 0, 0], [2, 0, 0], [2, 0, 0], [1, 2, 0], [2, 0, 0], [2, 0, 0], [2, 2, 0], [2, 0, 0], [1, 2, 0], [2, 0, 0], [1, 3, 0], [1, 2, 0], [2, 0, 0], [0, 0, 0], [2, 0, 0]] : List (List Int))[op.toNat]?.getD [])[i]?.getD 0

/-- what is wrong with an instruction, by its operands (ar: the Args of the function that it names) -/
def vins (nl nf nc : Nat) (sl : Int) (x : In4) (ar : Int) : Option Int :=
  if ¬ (1 ≤ x.op ∧ x.op ≤ 41) then some 1
  else match vop nl nf nc sl (vsh x.op 0) x.a with
    | some k => some k
    | none => match vop nl nf nc sl (vsh x.op 1) x.b with
      | some k => some k
      | none => match vop nl nf nc sl (vsh x.op 2) x.c with
        | some k => some k
        | none => if 16 - (vregs x ar).1 < (vregs x ar).2 then some 12 else none
theorem vsh_ok : ∀ o : _root_.Fin 42, ∀ i : _root_.Fin 3, 0 ≤ vsh (o.val : Int) i.val ∧ vsh (o.val : Int) i.val ≤ 9 ∧ (o.val ≠ 12 → vsh (o.val : Int) i.val ≠ 5) := by decide +kernel
theorem keeps_cell {w w' : World} (hk : Kp (fun _ => False) w w') {a : Addr} {u : Value} (e : w.cell? a = some u) : w'.cell? a = some u := (hk.cell (World.block_lt_of_cell? _ _ e) (fun e => e)).trans e
theorem RdAt.kp {w w' : World} {R : Nat} {pl : Option Addr} {nl cl : Nat} {pf : Option Addr} {nf cf : Nat} {sl : Int} {pc : Option Addr} {nc cc : Nat} (h : RdAt w R pl nl cl pf nf cf sl pc nc cc) (hk : Kp (fun _ => False) w w') : RdAt w' R pl nl cl pf nf cf sl pc nc cc :=
  ⟨keeps_cell hk h.lits, keeps_cell hk h.funcs, keeps_cell hk h.slots, keeps_cell hk h.code⟩
section
variable {nl nf nc : Nat} {sl : Int} {x : In4} {ar : Int} {o : Nat} {k : Int}
theorem vins_0 (h : 1 ≤ x.op ∧ x.op ≤ 41) (ho : x.op = o) (h0 : vop nl nf nc sl (vsh o 0) x.a = some k) : vins nl nf nc sl x ar = some k := by
  unfold vins; rw [if_neg (by simpa using h), ho, h0]
theorem vins_1 (h : 1 ≤ x.op ∧ x.op ≤ 41) (ho : x.op = o) (h0 : vop nl nf nc sl (vsh o 0) x.a = none) (h1 : vop nl nf nc sl (vsh o 1) x.b = some k) : vins nl nf nc sl x ar = some k := by
  unfold vins; rw [if_neg (by simpa using h), ho, h0]; simp only [h1]
theorem vins_2 (h : 1 ≤ x.op ∧ x.op ≤ 41) (ho : x.op = o) (h0 : vop nl nf nc sl (vsh o 0) x.a = none) (h1 : vop nl nf nc sl (vsh o 1) x.b = none) (h2 : vop nl nf nc sl (vsh o 2) x.c = some k) : vins nl nf nc sl x ar = some k := by
  unfold vins; rw [if_neg (by simpa using h), ho, h0]; simp only [h1, h2]
theorem vins_3 (h : 1 ≤ x.op ∧ x.op ≤ 41) (ho : x.op = o) (h0 : vop nl nf nc sl (vsh o 0) x.a = none) (h1 : vop nl nf nc sl (vsh o 1) x.b = none) (h2 : vop nl nf nc sl (vsh o 2) x.c = none) :
    vins nl nf nc sl x ar = if 16 - (vregs x ar).1 < (vregs x ar).2 then some 12 else none := by
  unfold vins; rw [if_neg (by simpa using h), ho, h0]; simp only [h1, h2]
end
theorem cf_operand (args : Array Value) (w : World) : (callFunc 61 args).run Tryd.prog w = .ok (.enter 61 args) w := by kernel_rfl
set_option maxRecDepth 100000 in
set_option maxHeartbeats 8000000 in
theorem instruction_vet {w : World} {R : Nat} {pl : Option Addr} {nl cl : Nat} {pf : Option Addr} {nf cf : Nat} {sl : Int} {pc : Option Addr} {nc cc : Nat} (h : RdAt w R pl nl cl pf nf cf sl pc nc cc) (hsh : ∀ (o i : Nat), o < 42 → i < 3 → w.cell? ⟨R, 7 + o * 3 + i, none⟩ = some (.int .i64 (vsh o i)))
    (hnl : nl ≤ 100000) (hnf : nf ≤ 100000) (hnc : nc ≤ 100000) (hs0 : 0 ≤ sl) (hs1 : sl ≤ 32) (x : In4) (ar : Int) (h12 : x.op ≠ 12)
    (hf : x.op = 16 → ∀ k : Nat, x.b = k → k < nf → ∃ (b off : Nat), pf = some ⟨b, off, none⟩ ∧ w.cell? ⟨b, off + k * 4 + 1, none⟩ = some (.int .i64 ar)) :
    Calls Tryd.prog 51 #[.pointer (some ⟨R, 0, none⟩), .agg #[.int .i64 x.op, .int .i64 x.a, .int .i64 x.b, .int .i64 x.c]] w fun e w' => e = .returned (errv (vins nl nf nc sl x ar)) ∧ Kp (fun _ => False) w w' := by
  obtain ⟨w1, hw1⟩ : ∃ w1, w.alloc (.cells #[.int .i64 x.op, .int .i64 x.a, .int .i64 x.b, .int .i64 x.c] 29) = w1 := ⟨_, rfl⟩
  have hk1 : Kp (fun _ => False) w w1 := by rw [← hw1]; exact (Kp.refl _ w).alloc _
  have hb : w1.heap[w.heap.size]? = some (.cells #[.int .i64 x.op, .int .i64 x.a, .int .i64 x.b, .int .i64 x.c] 29 (0, 0)) := by rw [← hw1]; exact heap_alloc_new w _
  obtain ⟨y0, y1, y2, y3, yf⟩ := vfour_facts hb
  have kc : ∀ b i u, w.cell? ⟨b, i, none⟩ = some u → w1.cell? ⟨b, i, none⟩ = some u := fun b i u e => (hk1.cell (World.block_lt_of_cell? _ _ e) (fun e => e)).trans e
  have hr1 : RdAt w1 R pl nl cl pf nf cf sl pc nc cc := ⟨kc _ _ _ h.lits, kc _ _ _ h.funcs, kc _ _ _ h.slots, kc _ _ _ h.code⟩
  by_cases hop : 1 ≤ x.op ∧ x.op ≤ 41
  · obtain ⟨o, ho⟩ : ∃ o : Nat, x.op = o := ⟨x.op.toNat, by omega⟩
    have ho42 : o < 42 := by omega
    have s0 : w1.cell? ⟨R, 7 + o * 3, none⟩ = some (.int .i64 (vsh o 0)) := kc _ _ _ (hsh o 0 ho42 (by omega))
    have s1 := kc _ _ _ (hsh o 1 ho42 (by omega))
    have s2 := kc _ _ _ (hsh o 2 ho42 (by omega))
    have HS := Lib.hid (And.intro s0 (And.intro s1 s2))
    have v0 := vsh_ok ⟨o, ho42⟩ ⟨0, by omega⟩
    have v1 := vsh_ok ⟨o, ho42⟩ ⟨1, by omega⟩
    have v2 := vsh_ok ⟨o, ho42⟩ ⟨2, by omega⟩
    have hwi : wi (o : Int) 1 41 = true := wi_true.2 (by omega)
    have H := Lib.hid (And.intro hr1 (And.intro hk1 (And.intro hop (And.intro ho (And.intro v0 (And.intro v1 v2))))))
    have i0 := three0
    have i1 := three1
    have i2 := three2
    rw [ho] at y0 hb
    have HB := Lib.hid hb
    clear h hsh hk1 hb kc hr1 hop v0 v1 v2
    rw [ho]
    rw [ho] at hw1
    have hoi : (o : Int) < 42 := by omega
    go_enter Tryd.func51, Tryd.ntmps51
    go_wp2_with fail
    refine (vin_any _ _ _ _).mono ?_
    rintro e w2 ⟨rfl, rfl⟩
    rw [hwi]
    go_wp2_with fail
    refine wp_loop_rounds 4 ?_
    rw [rounds_succ]
    go_wp2_with fail
    have HR0 := Lib.hid (fun (wx : World) (k : Kp (fun _ => False) w1 wx) => operand_vet (H.out.1.kp k) hnl hnf hnc hs0 hs1 (vsh o 0) x.a (H.out.2.2.2.2.1.2.2 (by have := H.out.2.2.2.1; omega)) H.out.2.2.2.2.1.1 H.out.2.2.2.2.1.2.1)
    go_cut [7] (fun s7 wx => s7 = errv (vop nl nf nc sl (vsh o 0) x.a) ∧ Kp (fun _ => False) w1 wx)
    case first =>
      go_region_law (refine vstep_fn (by rfl) 61 #[.tmp 26, .tmp 35, .tmp 36] #[134, 3, 3] (by rfl) cf_operand #[.pointer (some ⟨R, 0, none⟩), .int .i64 (vsh o 0), .int .i64 x.a] (by first | (simp [Act.eval]; done) | simp [Act.eval, Act.put]) ?_; refine (HR0.out _ (Kp.refl (fun _ => False) w1).drew).mono ?_; rintro e w5 ⟨rfl, rfl⟩; refine ⟨_, rfl, ?_⟩)
      all_goals
        refine Met.intro ?_
        go_step
        go_meet
        exact ⟨rfl, (Kp.refl (fun _ => False) w1).drew⟩
    case rest =>
      obtain ⟨rfl, hkx⟩ := hcut
      have HK0 := Lib.hid hkx
      clear y0 y1 y2 y3 yf s0 s1 s2
      obtain ⟨y0, y1, y2, y3, yf⟩ := vfour_facts ((hkx.block _ (Array.getElem?_eq_some_iff.1 HB.out).1 (fun e => e)).trans HB.out)
      have s0 := keeps_cell hkx HS.out.1
      have s1 := keeps_cell hkx HS.out.2.1
      have s2 := keeps_cell hkx HS.out.2.2
      clear hkx
      rcases hv0 : vop nl nf nc sl (vsh o 0) x.a with _ | k
      rotate_left
      · have HV := Lib.hid hv0
        clear hv0
        simp only [errv]
        go_wp2_with fail
        go_ret
        exact ⟨by rw [vins_0 H.out.2.2.1 H.out.2.2.2.1  HV.out]; rfl, H.out.2.1.trans' HK0.out⟩
      have HV0 := Lib.hid hv0
      clear hv0
      simp only [errv]
      go_wp2_with fail
      rw [rounds_succ]
      go_wp2_with fail
      have HR1 := Lib.hid (fun (wx : World) (k : Kp (fun _ => False) w1 wx) => operand_vet (H.out.1.kp k) hnl hnf hnc hs0 hs1 (vsh o 1) x.b (H.out.2.2.2.2.2.1.2.2 (by have := H.out.2.2.2.1; omega)) H.out.2.2.2.2.2.1.1 H.out.2.2.2.2.2.1.2.1)
      go_cut [7] (fun s7 wx => s7 = errv (vop nl nf nc sl (vsh o 1) x.b) ∧ Kp (fun _ => False) w1 wx)
      case first =>
        go_region_law (refine vstep_fn (by rfl) 61 #[.tmp 26, .tmp 35, .tmp 36] #[134, 3, 3] (by rfl) cf_operand #[.pointer (some ⟨R, 0, none⟩), .int .i64 (vsh o 1), .int .i64 x.b] (by first | (simp [Act.eval]; done) | simp [Act.eval, Act.put]) ?_; refine (HR1.out _ HK0.out.drew).mono ?_; rintro e w5 ⟨rfl, rfl⟩; refine ⟨_, rfl, ?_⟩)
        all_goals
          refine Met.intro ?_
          go_step
          go_meet
          exact ⟨rfl, HK0.out.drew⟩
      case rest =>
        obtain ⟨rfl, hkx⟩ := hcut
        have HK1 := Lib.hid hkx
        clear y0 y1 y2 y3 yf s0 s1 s2
        obtain ⟨y0, y1, y2, y3, yf⟩ := vfour_facts ((hkx.block _ (Array.getElem?_eq_some_iff.1 HB.out).1 (fun e => e)).trans HB.out)
        have s0 := keeps_cell hkx HS.out.1
        have s1 := keeps_cell hkx HS.out.2.1
        have s2 := keeps_cell hkx HS.out.2.2
        clear hkx
        rcases hv1 : vop nl nf nc sl (vsh o 1) x.b with _ | k
        rotate_left
        · have HV := Lib.hid hv1
          clear hv1
          simp only [errv]
          go_wp2_with fail
          go_ret
          exact ⟨by rw [vins_1 H.out.2.2.1 H.out.2.2.2.1 HV0.out HV.out]; rfl, H.out.2.1.trans' HK1.out⟩
        have HV1 := Lib.hid hv1
        clear hv1
        simp only [errv]
        go_wp2_with fail
        rw [rounds_succ]
        go_wp2_with fail
        have HR2 := Lib.hid (fun (wx : World) (k : Kp (fun _ => False) w1 wx) => operand_vet (H.out.1.kp k) hnl hnf hnc hs0 hs1 (vsh o 2) x.c (H.out.2.2.2.2.2.2.2.2 (by have := H.out.2.2.2.1; omega)) H.out.2.2.2.2.2.2.1 H.out.2.2.2.2.2.2.2.1)
        go_cut [7] (fun s7 wx => s7 = errv (vop nl nf nc sl (vsh o 2) x.c) ∧ Kp (fun _ => False) w1 wx)
        case first =>
          go_region_law (refine vstep_fn (by rfl) 61 #[.tmp 26, .tmp 35, .tmp 36] #[134, 3, 3] (by rfl) cf_operand #[.pointer (some ⟨R, 0, none⟩), .int .i64 (vsh o 2), .int .i64 x.c] (by first | (simp [Act.eval]; done) | simp [Act.eval, Act.put]) ?_; refine (HR2.out _ HK1.out.drew).mono ?_; rintro e w5 ⟨rfl, rfl⟩; refine ⟨_, rfl, ?_⟩)
          all_goals
            refine Met.intro ?_
            go_step
            go_meet
            exact ⟨rfl, HK1.out.drew⟩
        case rest =>
          obtain ⟨rfl, hkx⟩ := hcut
          have HK2 := Lib.hid hkx
          clear y0 y1 y2 y3 yf s0 s1 s2
          obtain ⟨y0, y1, y2, y3, yf⟩ := vfour_facts ((hkx.block _ (Array.getElem?_eq_some_iff.1 HB.out).1 (fun e => e)).trans HB.out)
          have s0 := keeps_cell hkx HS.out.1
          have s1 := keeps_cell hkx HS.out.2.1
          have s2 := keeps_cell hkx HS.out.2.2
          clear hkx
          rcases hv2 : vop nl nf nc sl (vsh o 2) x.c with _ | k
          rotate_left
          · have HV := Lib.hid hv2
            clear hv2
            simp only [errv]
            go_wp2_with fail
            go_ret
            exact ⟨by rw [vins_2 H.out.2.2.1 H.out.2.2.2.1 HV0.out HV1.out HV.out]; rfl, H.out.2.1.trans' HK2.out⟩
          have HV2 := Lib.hid hv2
          clear hv2
          simp only [errv]
          go_wp2_with fail
          rw [rounds_succ]
          go_wp2_with fail
          have hfirst : ∀ n, vop nl nf nc sl 3 n = none → 0 ≤ n ∧ n ≤ 15 := fun n e => by
            simp only [vop, vrng] at e
            simp at e
            exact e
          have hreg : 0 ≤ (vregs x ar).1 ∧ (vregs x ar).1 ≤ 15 := by
            have ho := H.out.2.2.2.1
            unfold vregs
            by_cases e2 : x.op = 2
            · rw [if_pos e2]
              obtain rfl : o = 2 := by omega
              exact hfirst _ (by have := HV1.out; rwa [show vsh ((2 : Nat) : Int) 1 = 3 from by decide] at this)
            · rw [if_neg e2]
              by_cases e16 : x.op = 16
              · rw [if_pos e16]
                obtain rfl : o = 16 := by omega
                exact hfirst _ (by have := HV2.out; rwa [show vsh ((16 : Nat) : Int) 2 = 3 from by decide] at this)
              · rw [if_neg e16]
                by_cases e37 : x.op = 37
                · rw [if_pos e37]
                  obtain rfl : o = 37 := by omega
                  exact hfirst _ (by have := HV1.out; rwa [show vsh ((37 : Nat) : Int) 1 = 3 from by decide] at this)
                · rw [if_neg e37]; simp
          have hreg2 := registers_vet (x := x) (ar := ar) (H.out.1.kp HK2.out) h12 (fun e16 => by
            obtain rfl : o = 16 := by have := H.out.2.2.2.1; omega
            have hb : 0 ≤ x.b ∧ x.b ≤ (nf : Int) - 1 := by
              have e := HV1.out
              rw [show vsh ((16 : Nat) : Int) 1 = 6 from by decide] at e
              simp only [vop, vrng] at e
              simp at e
              omega
            obtain ⟨b, off, e1, e2⟩ := hf e16 x.b.toNat (by omega) (by omega)
            exact ⟨x.b.toNat, b, off, by omega, by omega, e1, keeps_cell HK2.out (keeps_cell H.out.2.1 e2)⟩)
          rw [H.out.2.2.2.1] at hreg2
          obtain ⟨⟨r1, r2⟩, hr⟩ : ∃ r, vregs x ar = r := ⟨_, rfl⟩
          rw [hr] at hreg2 hreg
          simp only at hreg2 hreg
          have HRG := Lib.hid (And.intro hreg2 hr)
          obtain ⟨hr0, hr15⟩ := hreg
          clear hreg2 hr hfirst s0 s1 s2
          refine HRG.out.1.mono ?_
          rintro e w6 ⟨rfl, hk6⟩
          have H6 := Lib.hid hk6
          clear hk6 y0 y1 y2 y3 yf
          by_cases hbig : 16 - r1 < r2
          · go_wp2_with fail
            go_ret
            exact ⟨by rw [vins_3 H.out.2.2.1 H.out.2.2.2.1 HV0.out HV1.out HV2.out, HRG.out.2, if_pos hbig]; rfl, (H.out.2.1.trans' HK2.out).trans' H6.out⟩
          · go_wp2_with fail
            go_ret
            exact ⟨by rw [vins_3 H.out.2.2.1 H.out.2.2.2.1 HV0.out HV1.out HV2.out, HRG.out.2, if_neg (by simpa using hbig)]; rfl, (H.out.2.1.trans' HK2.out).trans' H6.out⟩
  · have hv : vins nl nf nc sl x ar = some 1 := by unfold vins; rw [if_pos hop]
    have hwi : wi x.op 1 41 = false := by
      rcases hb : wi x.op 1 41 with _ | _
      · rfl
      · exact absurd (wi_true.1 hb) hop
    rw [hv]
    have H := Lib.hid hk1
    clear h hsh hk1 hb kc hr1 hop
    go_enter Tryd.func51, Tryd.ntmps51
    go_wp2_with fail
    refine (vin_any _ _ _ _).mono ?_
    rintro e w2 ⟨rfl, rfl⟩
    rw [hwi]
    go_wp2_with fail
    go_ret
    exact ⟨rfl, H.out⟩
end Go.Proofs.YtpdepmkojbpklaaDoor
