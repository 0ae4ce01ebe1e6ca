/- Whether one of the functions has this name. What is wrong with a function. Labels that are right by their operands lead within the function. -/
import Derived.Test.YtpdepmkojbpklaaDoorM15
import Derived.Test.YtpdepmkojbpklaaDoorM16
import Derived.Test.YtpdepmkojbpklaaDoorM17
/- Whether one of the functions has this name. -/
namespace Go.Proofs.YtpdepmkojbpklaaDoor
open Go.RowKit

def vnamed (fns : List Fn4) (nm : ByteArray) : Bool := fns.any fun f => decide (f.name = nm)
theorem vnamed_yes {fns : List Fn4} {nm : ByteArray} {j : Nat} {f : Fn4} (h : fns[j]? = some f) (he : f.name = nm) : vnamed fns nm = true :=
  List.any_eq_true.2 ⟨f, List.mem_of_getElem? h, by simp [he]⟩
theorem vnamed_no {fns : List Fn4} {nm : ByteArray} (h : ∀ (i : Nat) (f : Fn4), fns[i]? = some f → f.name ≠ nm) : vnamed fns nm = false := by
  unfold vnamed
  rw [List.any_eq_false]
  intro f hf
  obtain ⟨i, hi⟩ := List.getElem?_of_mem hf
  simp [h i f hi]
theorem vname_ne {s t : ByteArray} (h : s ≠ t) : (s.toList == t.toList) = false := by
  rw [beq_eq_false_iff_ne]
  intro e
  apply h
  rw [ByteArray.toList_eq, ByteArray.toList_eq] at e
  exact ByteArray.ext (Array.ext' e)

theorem FnsAt.take {F : Nat → Prop} {w : World} {l : List Fn4} {po : Option Addr} {cap : Nat} (h : FnsAt F w l (.slice po l.length cap)) (i : Nat) (hi : i ≤ l.length) : FnsAt F w (l.take i) (.slice po i cap) := by
  obtain ⟨po', cap', e, h1, h2, h3⟩ := h
  simp only [Value.slice.injEq] at e
  obtain ⟨rfl, -, rfl⟩ := e
  refine ⟨po, cap, by rw [List.length_take, Nat.min_eq_left hi], by rw [List.length_take]; omega, by rw [List.length_take]; omega, fun k f hf => ?_⟩
  refine h3 k f ?_
  rw [List.getElem?_take] at hf
  split at hf
  · exact hf
  · cases hf

set_option maxRecDepth 100000 in
set_option maxHeartbeats 4000000 in
theorem named_any {F : Nat → Prop} {w : World} {fns : List Fn4} {pf : Option Addr} {n cf : Nat} (h : FnsAt F w fns (.slice pf n cf)) (hF : ∀ q, F q → q < w.heap.size) (nm : ByteArray) :
    Calls Tryd.prog 49 #[.slice pf n cf, .string nm] w fun e w' => e = .returned (.bool (vnamed fns nm)) ∧ Kp (fun _ => False) w w' := by
  obtain ⟨pf', cf', e, h1, h2, h3⟩ := h
  simp only [Value.slice.injEq] at e
  obtain ⟨rfl, rfl, rfl⟩ := e
  have H := Lib.hid (And.intro h3 (And.intro hF h2))
  have hn : fns.length ≤ 140737488351232 := by omega
  clear h3 hF h2 h1
  go_enter Tryd.func49, Tryd.ntmps49
  go_wp2_with fail
  go_loopg [9] fns.length (fun gk jj wr => ∃ j : Nat, j ≤ fns.length ∧ gk = fns.length - j ∧ jj = .int .i64 j ∧ (∀ (i : Nat) (f : Fn4), i < j → fns[i]? = some f → f.name ≠ nm) ∧ Kp (fun _ => False) w wr)
  case atStart => exact ⟨0, by omega, rfl, rfl, fun i f hi => by omega, Kp.refl _ _⟩
  case round =>
    obtain ⟨j, hj, hgk, rfl, hno, hk⟩ := hrel
    by_cases hlt : j < fns.length
    · obtain ⟨f, hjf⟩ : ∃ f, fns[j]? = some f := ⟨fns[j], List.getElem?_eq_getElem hlt⟩
      obtain ⟨b, off, q0, q1, q2, q3, rfl, hb, a0, a1, a2, a3, vc, hq, -, -, -, hcf⟩ := H.out.1 j f hjf
      obtain ⟨pc, nc, cc, rfl⟩ := hcf.form
      clear hcf
      simp only [List.cons.injEq, and_true] at hq
      obtain ⟨rfl, rfl, rfl, rfl⟩ := hq
      have kc : ∀ i u, w.cell? ⟨b, i, none⟩ = some u → wr.cell? ⟨b, i, none⟩ = some u := fun i u e => (hk.cell (World.block_lt_of_cell? _ _ e) (fun e => e)).trans e
      have x0 := kc _ _ a0
      have x1 := kc _ _ a1
      have x2 := kc _ _ a2
      have x3 := kc _ _ a3
      have hli : (j : Int) < fns.length := by omega
      obtain ⟨wq, hwq⟩ : ∃ wq, wr.alloc (.cells #[.string f.name, .int .i64 f.args, .int .i64 f.slots, .slice pc nc cc] 32) = wq := ⟨_, rfl⟩
      have hkq : Kp (fun _ => False) wr wq := by rw [← hwq]; exact (Kp.refl _ wr).alloc _
      have hbq : wq.heap[wr.heap.size]? = some (.cells #[.string f.name, .int .i64 f.args, .int .i64 f.slots, .slice pc nc cc] 32 (0, 0)) := by rw [← hwq]; exact heap_alloc_new wr _
      have y0 : wq.cell? ⟨wr.heap.size, 0, none⟩ = some (.string f.name) := by rw [cell_of_row wq _ 0 _ _ _ hbq]; rfl
      by_cases hnm : f.name = nm
      · have H6 := Lib.hid (And.intro (hk.trans' hkq) (vnamed_yes hjf hnm))
        subst hnm
        clear hk hkq hbq kc a0 a1 a2 a3 hno hjf
        go_wp2_with fail
        go_ret
        exact ⟨by rw [H6.out.2]; rfl, H6.out.1⟩
      · have H6 := Lib.hid (And.intro (hk.trans' hkq) (And.intro hno (And.intro hnm hjf)))
        have hne := vname_ne hnm
        clear hk hkq hbq kc a0 a1 a2 a3 hno hjf
        go_wp2_with fail
        go_roundg (fns.length - (j + 1))
        case measure => omega
        case rel => exact ⟨j + 1, by omega, rfl, by go_num, fun i f' hi hf' => by
          rcases Nat.lt_or_ge i j with h1 | h1
          · exact H6.out.2.1 i f' h1 hf'
          · obtain rfl : i = j := by omega
            obtain rfl := Option.some.inj (H6.out.2.2.2.symm.trans hf')
            exact H6.out.2.2.1, H6.out.1⟩
    · have hlt' : ¬ (j : Int) < fns.length := by omega
      have H6 := Lib.hid (And.intro hk (vnamed_no (fns := fns) (nm := nm) fun i f hf => hno i f (by have := (List.getElem?_eq_some_iff.1 hf).1; omega) hf))
      clear hk hno
      go_wp2_with fail
      go_ret
      exact ⟨by rw [H6.out.2]; rfl, H6.out.1⟩
end Go.Proofs.YtpdepmkojbpklaaDoor

/- What is wrong with a function. -/
namespace Go.Proofs.YtpdepmkojbpklaaDoor
open Go.RowKit

theorem cf_within (args : Array Value) (w : World) : (callFunc 35 args).run Tryd.prog w = .ok (.enter 35 args) w := by kernel_rfl
theorem cf_named (args : Array Value) (w : World) : (callFunc 49 args).run Tryd.prog w = .ok (.enter 49 args) w := by kernel_rfl
section
variable {P : Program} {w : World}
theorem vstep_fnw {ops : Array Oper} {o : Oper} {a : Act} {K : Act → World → Prop} {Q : Exit → Act → World → Prop} {E : Prop} (hw : Region.wanted o (yielded ops a.tmps) = true) (f : FuncId) (xs : Array Operand) (ts : Array TypeId)
    (ho : o.op = .call { callee := .value (.func f), args := xs, argTypes := ts }) (hcf : ∀ (args : Array Value) (w : World), (callFunc f args).run P w = .ok (.enter f args) w) (vs : Array Value) (hx : xs.map a.eval = vs)
    (h : Calls P f vs w fun e w' => ∃ v, e = .returned v ∧ K (a.put o.dst v) w') : if Region.wanted o (yielded ops a.tmps) = true then Oper.wp P o a w K Q else E := by
  rw [if_pos hw]
  unfold Oper.wp
  rw [vrun_fn ho hcf hx, Oper.upon_enter]
  refine h.mono ?_
  rintro e w' ⟨v, rfl, hK⟩
  exact hK
end
/-- a function itself: its name, its Args, its Slots, its length -/
def vhead (fns : List Fn4) (i : Nat) (f : Fn4) : Bool :=
  (wi f.name.size 1 255 && !vnamed (fns.take i) f.name) && (wi f.args 0 8 && wi f.slots 0 32 && wi f.code.length 1 16384)

set_option maxRecDepth 100000 in
set_option maxHeartbeats 4000000 in
theorem function_head {F : Nat → Prop} {w : World} {nm : ByteArray} {vl : Value} {fns : List Fn4} {pf : Option Addr} {n cf : Nat} (h : FnsAt F w fns (.slice pf n cf)) (hF : ∀ q, F q → q < w.heap.size)
    {pl : Option Addr} {nl cl : Nat} (hvl : vl = .slice pl nl cl) (i : Nat) (f : Fn4) (hf : fns[i]? = some f) (hbad : vhead fns i f = false) :
    Calls Tryd.prog 37 #[.agg #[.string nm, vl, .slice pf n cf], .int .i64 i] w fun e w' => e = .returned (.iface 42 (.int .i64 11)) ∧ Kp (fun _ => False) w w' := by
  subst hvl
  have HB := Lib.hid hbad
  clear hbad
  obtain ⟨pf', cf', e, h1, h2, h3⟩ := id h
  simp only [Value.slice.injEq] at e
  obtain ⟨rfl, rfl, rfl⟩ := e
  obtain ⟨b, off, q0, q1, q2, q3, rfl, hb, a0, a1, a2, a3, vc, hq, hqa, hqs, hqn, hcf⟩ := h3 i f hf
  obtain ⟨pc, nc, cc, rfl⟩ := hcf.form
  obtain ⟨pc', cc', e, g1, g2, g3⟩ := id hcf
  simp only [Value.slice.injEq] at e
  obtain ⟨rfl, rfl, rfl⟩ := e
  simp only [List.cons.injEq, and_true] at hq
  obtain ⟨rfl, rfl, rfl, rfl⟩ := hq
  have hil := (List.getElem?_eq_some_iff.1 hf).1
  obtain ⟨w1, hw1⟩ : ∃ w1, w.alloc (.cells #[.string nm, .slice pl nl cl, .slice (some ⟨b, off, none⟩) fns.length cf] 26) = w1 := ⟨_, rfl⟩
  have hk1 : Kp (fun _ => False) w w1 := by rw [← hw1]; exact (Kp.refl _ w).alloc _
  have hz1 : w1.heap.size = w.heap.size + 1 := by rw [← hw1]; simp
  have hbm : w1.heap[w.heap.size]? = some (.cells #[.string nm, .slice pl nl cl, .slice (some ⟨b, off, none⟩) fns.length cf] 26 (0, 0)) := by rw [← hw1]; exact heap_alloc_new w _
  obtain ⟨wq, hwq⟩ : ∃ wq, w1.alloc (.cells #[.string f.name, .int .i64 f.args, .int .i64 f.slots, .slice pc f.code.length cc] 32) = wq := ⟨_, rfl⟩
  have hkq : Kp (fun _ => False) w1 wq := by rw [← hwq]; exact (Kp.refl _ w1).alloc _
  have hbq : wq.heap[w1.heap.size]? = some (.cells #[.string f.name, .int .i64 f.args, .int .i64 f.slots, .slice pc f.code.length cc] 32 (0, 0)) := by rw [← hwq]; exact heap_alloc_new w1 _
  have hzq : wq.heap.size = w.heap.size + 2 := by rw [← hwq]; simp; omega
  have hbm2 : wq.heap[w.heap.size]? = some (.cells #[.string nm, .slice pl nl cl, .slice (some ⟨b, off, none⟩) fns.length cf] 26 (0, 0)) := (hkq.block _ (by omega) (fun e => e)).trans hbm
  have kc : ∀ i u, w.cell? ⟨b, i, none⟩ = some u → w1.cell? ⟨b, i, none⟩ = some u := fun i u e => keeps_cell hk1 e
  have x0 := kc _ _ a0
  have x1 := kc _ _ a1
  have x2 := kc _ _ a2
  have x3 := kc _ _ a3
  rw [hz1] at hbq
  have m2 : w1.cell? ⟨w.heap.size, 2, none⟩ = some (.slice (some ⟨b, off, none⟩) fns.length cf) := by rw [cell_of_row w1 _ 2 _ _ _ hbm]; rfl
  have hii : (i : Int) < fns.length := by omega
  have H := Lib.hid (And.intro h (And.intro hF (And.intro hf (And.intro hcf (And.intro (hk1.trans' hkq) (And.intro hbq (And.intro hbm2 hzq)))))))
  clear h3 a0 a1 a2 a3 kc hk1 hkq hbm hcf g3 h hF hqa hqs hbq hbm2
  go_enter Tryd.func37, Tryd.ntmps37
  go_upto_region 2 with fail
  have HN := Lib.hid (fun (wx : World) (k : Kp (fun _ => False) wq wx) => named_any (FnsAt.take (H.out.1.imp (fun _ e => e) (fun b j u _ e => keeps_cell (H.out.2.2.2.2.1.trans' k) e)) i (Nat.le_of_lt hil)) (fun q e => by have := H.out.2.1 q e; have := k.size; have := H.out.2.2.2.2.1.size; omega) f.name)
  have hic : (i : Int) ≤ cf := by omega
  have y0 : wq.cell? ⟨w.heap.size + 1, 0, none⟩ = some (.string f.name) := by rw [cell_of_row wq _ 0 _ _ _ H.out.2.2.2.2.2.1]; rfl
  have p2 : wq.cell? ⟨w.heap.size, 2, none⟩ = some (.slice (some ⟨b, off, none⟩) fns.length cf) := by rw [cell_of_row wq _ 2 _ _ _ H.out.2.2.2.2.2.2.1]; rfl
  have HW := Lib.hid (And.intro hw1 hwq)
  clear hw1 hwq m2 x0 x1 x2 x3
  go_cut [30] (fun s30 wx => s30 = .bool (!(wi f.name.size 1 255 && !vnamed (fns.take i) f.name)) ∧ Kp (fun _ => False) wq wx)
  case first =>
    rcases hc : wi f.name.size 1 255 with _ | _
    · have HC := Lib.hid hc
      clear hc
      have hv : ∀ wx : World, Calls Tryd.prog 35 #[.int .i64 f.name.size, .int .i64 1, .int .i64 255] wx fun e w' => e = .returned (.bool false) ∧ w' = wx := fun wx => (vin_any _ _ _ wx).mono fun e w' h => ⟨by rw [h.1, HC.out], h.2.symm⟩
      have HV := Lib.hid hv
      clear hv
      go_quiet ((go_at_call 35; refine Calls.quiet_of_same (HV.out _)))
      go_wp2_with fail
      go_meet
      exact ⟨by rw [HC.out]; rfl, kp_drewN (Kp.refl (fun _ => False) wq) _⟩
    · have HC := Lib.hid hc
      clear hc
      go_region_law (first
        | (refine vstep_fn (by rfl) 35 #[.tmp 19, .const (.int .i64 1), .const (.int .i64 255)] #[3, 3, 3] (by rfl) cf_within #[.int .i64 f.name.size, .int .i64 1, .int .i64 255] (by first | (simp [Act.eval]; done) | simp [Act.eval, Act.put]) ?_; refine (vin_any _ _ _ _).mono ?_; rintro e w5 ⟨rfl, rfl⟩; rw [HC.out]; refine ⟨_, rfl, ?_⟩)
        | (refine vstep_fnw (by rfl) 49 #[.tmp 26, .tmp 28] #[24, 9] (by rfl) cf_named #[.slice (some ⟨b, off, none⟩) i cf, .string f.name] (by first | (simp [Act.eval]; done) | simp [Act.eval, Act.put]) ?_; refine (HN.out _ (Kp.refl (fun _ => False) wq).drew).mono ?_; rintro e w5 ⟨rfl, hk5⟩; refine ⟨_, rfl, ?_⟩))
      all_goals
        refine Met.intro ?_
        go_step
        go_meet
        exact ⟨by rw [HC.out]; simp, (Kp.refl (fun _ => False) wq).drew.trans' hk5⟩
  case rest =>
    obtain ⟨rfl, hkx⟩ := hcut
    have hb1 := (hkx.block _ (by have := H.out.2.2.2.2.2.2.2; omega) (fun e => e)).trans H.out.2.2.2.2.2.1
    have HX := Lib.hid (And.intro (H.out.2.2.2.2.1.trans' hkx) hb1)
    have y1 := (cell_of_row _ _ 1 _ _ _ hb1).trans rfl
    have y2 := (cell_of_row _ _ 2 _ _ _ hb1).trans rfl
    have y3 := (cell_of_row _ _ 3 _ _ _ hb1).trans rfl
    simp only [List.getElem?_toArray, List.getElem?_cons_succ, List.getElem?_cons_zero] at y1 y2 y3
    clear y0 p2 hkx hb1
    rcases hh : (wi f.name.size 1 255 && !vnamed (fns.take i) f.name) with _ | _
    · clear hh
      go_wp2_with fail
      go_ret
      exact ⟨rfl, HX.out.1⟩
    have HH := Lib.hid hh
    clear hh
    go_wp2_with fail
    refine (vin_any _ _ _ _).mono ?_
    rintro e w2 ⟨rfl, rfl⟩
    rcases hA : wi f.args 0 8 with _ | _
    · have HA := Lib.hid hA
      clear hA
      go_wp2_with fail
      go_ret
      exact ⟨rfl, HX.out.1⟩
    have HA := Lib.hid hA
    clear hA
    go_wp2_with fail
    refine (vin_any _ _ _ _).mono ?_
    rintro e w3 ⟨rfl, rfl⟩
    rcases hS : wi f.slots 0 32 with _ | _
    · have HS := Lib.hid hS
      clear hS
      go_wp2_with fail
      go_ret
      exact ⟨rfl, HX.out.1⟩
    have HS := Lib.hid hS
    clear hS
    go_wp2_with fail
    refine (vin_any _ _ _ _).mono ?_
    rintro e w4 ⟨rfl, rfl⟩
    rcases hL : wi f.code.length 1 16384 with _ | _
    · have HL := Lib.hid hL
      clear hL
      go_wp2_with fail
      go_ret
      exact ⟨rfl, HX.out.1⟩
    · exfalso
      have := HB.out
      unfold vhead at this
      rw [HH.out, HA.out, HS.out, hL] at this
      simp at this
end Go.Proofs.YtpdepmkojbpklaaDoor

/- Labels that are right by their operands lead within the function. -/
namespace Go.Proofs.YtpdepmkojbpklaaDoor
open Go.RowKit

theorem vins_ops {nl nf nc : Nat} {sl : Int} {x : In4} {ar : Int} (h : vins nl nf nc sl x ar = none) :
    (1 ≤ x.op ∧ x.op ≤ 41) ∧ vop nl nf nc sl (vsh x.op 0) x.a = none ∧ vop nl nf nc sl (vsh x.op 1) x.b = none ∧ vop nl nf nc sl (vsh x.op 2) x.c = none := by
  unfold vins at h
  by_cases hr : 1 ≤ x.op ∧ x.op ≤ 41
  · rw [if_neg (by simpa using hr)] at h
    cases h0 : vop nl nf nc sl (vsh x.op 0) x.a with
    | some k => rw [h0] at h; cases h
    | none =>
      cases h1 : vop nl nf nc sl (vsh x.op 1) x.b with
      | some k => rw [h0, h1] at h; cases h
      | none =>
        cases h2 : vop nl nf nc sl (vsh x.op 2) x.c with
        | some k => rw [h0, h1, h2] at h; cases h
        | none => exact ⟨hr, rfl, rfl, rfl⟩
  · rw [if_pos hr] at h; cases h
theorem vop_lab {nl nf nc : Nat} {sl n : Int} (h : vop nl nf nc sl 4 n = none) : 0 ≤ n ∧ n < nc := by
  unfold vop vrng at h
  simp at h
  omega
theorem vgoal_in {nl nf nc : Nat} {sl : Int} {x : In4} {ar : Int} (h : vins nl nf nc sl x ar = none)
    (ho : x.op = 4 ∨ x.op = 5 ∨ x.op = 6 ∨ x.op = 7 ∨ x.op = 8 ∨ x.op = 18 ∨ x.op = 20 ∨ x.op = 21 ∨ x.op = 22 ∨ x.op = 24) : 0 ≤ vgoal x ∧ vgoal x < nc := by
  obtain ⟨-, h0, h1, h2⟩ := vins_ops h
  unfold vgoal
  rcases ho with ho | ho | ho | ho | ho | ho | ho | ho | ho | ho <;> rw [ho] at h0 h1 h2 ⊢
  · exact vop_lab h0
  · exact vop_lab h2
  · exact vop_lab h2
  · exact vop_lab h2
  · exact vop_lab h2
  · exact vop_lab h1
  · exact vop_lab h0
  · exact vop_lab h0
  · exact vop_lab h0
  · exact vop_lab h0
theorem labOk_of {nl nf : Nat} {sl : Int} {code : List In4} {ar : Nat → Int} (h : ∀ (i : Nat) (x : In4), code[i]? = some x → vins nl nf code.length sl x (ar i) = none) : LabOk code := by
  intro i x t s q u hx hs hm
  have hi := (List.getElem?_eq_some_iff.1 hx).1
  have hv := h i x hx
  have hg := vgoal_in hv
  unfold vsteps at hs
  split at hs
  · split at hs
    · cases hs
    · cases hs; cases hm
  split at hs
  · cases hs; cases hm
  split at hs
  · rename_i ho
    have := hg (by omega)
    cases hs
    simp only [List.mem_cons, List.not_mem_nil, or_false, Prod.mk.injEq] at hm
    omega
  split at hs
  · rename_i ho
    have := hg (by omega)
    cases hs
    simp only [List.mem_cons, List.not_mem_nil, or_false, Prod.mk.injEq] at hm
    omega
  split at hs
  · rename_i ho
    have := hg (by omega)
    cases hs
    simp only [List.mem_cons, List.not_mem_nil, or_false, Prod.mk.injEq] at hm
    omega
  split at hs
  · split at hs
    · cases hs
    · cases hs
      simp only [List.mem_cons, List.not_mem_nil, or_false, Prod.mk.injEq] at hm
      omega
  · cases hs
    simp only [List.mem_cons, List.not_mem_nil, or_false, Prod.mk.injEq] at hm
    omega
end Go.Proofs.YtpdepmkojbpklaaDoor
