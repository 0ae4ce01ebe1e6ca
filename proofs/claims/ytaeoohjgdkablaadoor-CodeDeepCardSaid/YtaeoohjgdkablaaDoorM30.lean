/- Read of the bytes of a module that may be written. A call of a function, that may give up, as one step of a region that draws its order. -/
import Derived.Test.YtaeoohjgdkablaaDoorM16
import Derived.Test.YtaeoohjgdkablaaDoorM29
import Derived.Defers
import Derived.Recover
/- Read of the bytes of a module that may be written. -/
namespace Go.Proofs.YtaeoohjgdkablaaDoor
open Go.RowKit

/-- the deferred closure, where nothing was given up -/
theorem read_idle (p q : Addr) (w : World) :
    CallsD Tryd.prog 25 #[.pointer (some p), .pointer (some q)] .returning w fun e u' w' => e = .returned (.tuple #[]) ∧ u' = .returning ∧ w' = w := by
  refine callsD_of_wpS Tryd.func25 rfl fun c₀ cs hu => ?_
  apply wpS_seq
  apply wpS_region
  simp [wpOpsS, go_sem, recoverD, hu, Tryd.ntmps25, Exit.thenS]
  apply wpS_seq
  apply wpS_region
  simp [wpOpsS, go_sem, Exit.thenS]
  refine wpS_cond (t := false) (by simp [Act.eval, Array.replicate]) ?_
  simp only [Bool.false_eq_true, if_false]
  refine wpS_of_wp (wp_skip ?_)
  cases c₀
  simp_all [bodyPostS, results, Tryd.results25]

set_option maxRecDepth 100000 in
set_option maxHeartbeats 4000000 in
theorem read_ok {F : Nat → Prop} {w : World} {v : Value} {m : Md} (h : BytesAt F w (encM m) v) (hm : okM m) (hw : ∀ T ∈ m.lits, wfT T) (hn : m.name.size ≤ 1099511627776) (hl : (encM m).length ≤ 1000000000) :
    Calls Tryd.prog 11 #[v] w fun e w' => ∃ hh vl vf, e = .returned (.tuple #[.agg #[.string m.name, vl, vf], .nilIface]) ∧ MdAt (Own w.heap.size w') w' hh m [.string m.name, vl, vf] ∧ Kp (fun _ => False) w w' := by
  have hmf : ∀ (fn : Fn) (first cap : Array Value) (w : World), (Instr.makeFunc fn first cap).run Tryd.prog w = .ok (.func fn first cap) w := fun _ _ _ _ => rfl
  have h0 := bytes_any h
  obtain ⟨po, len, cap, rfl⟩ := h.form
  obtain ⟨w1, hw1⟩ : ∃ w1, ((w.alloc (.cells #[.string ⟨#[]⟩, .slice none 0 0, .slice none 0 0] 33)).alloc (.cells #[.nilIface] 35)).alloc (.cells #[.slice po len cap, .int .i64 0] 69) = w1 := ⟨_, rfl⟩
  have hk1 : Kp (fun _ => False) w w1 := by rw [← hw1]; exact (((Kp.refl _ w).alloc _).alloc _).alloc _
  have H := Lib.hid (And.intro h (And.intro hm (And.intro hw (And.intro hn hl))))
  have hr : RAt w1 (w.heap.size + 1 + 1) (.slice po len cap) (encM m) 0 := by
    refine ⟨?_, ?_, Nat.zero_le _⟩
    · rw [← hw1]
      have := heap_alloc_new ((w.alloc (.cells #[.string ⟨#[]⟩, .slice none 0 0, .slice none 0 0] 33)).alloc (.cells #[.nilIface] 35)) (.cells #[.slice po len cap, .int .i64 0] 69)
      simpa using this
    · exact (bytes_kp h0 hk1 (fun _ _ e => e)).imp (fun q e => by omega) (fun _ _ _ _ e => e)
  have hz : w1.heap.size = w.heap.size + 1 + 1 + 1 := by rw [← hw1]; simp
  have b0 : w1.heap[w.heap.size]? = some (.cells #[.string ⟨#[]⟩, .slice none 0 0, .slice none 0 0] 33 (0, 0)) := by
    rw [← hw1, Below.heap_alloc _ _ _ (by simp; omega), Below.heap_alloc _ _ _ (by simp)]; exact heap_alloc_new w _
  have b1 : w1.heap[w.heap.size + 1]? = some (.cells #[.nilIface] 35 (0, 0)) := by
    rw [← hw1, Below.heap_alloc _ _ _ (by simp)]
    have := heap_alloc_new (w.alloc (.cells #[.string ⟨#[]⟩, .slice none 0 0, .slice none 0 0] 33)) (.cells #[.nilIface] 35)
    simpa using this
  have H0 := Lib.hid (And.intro hr (And.intro hk1 (And.intro hz (And.intro b0 b1))))
  have HW := Lib.hid hw1
  clear h hm hw hn hl h0 hr hw1 hk1 hz b0 b1
  go_enter_defers Tryd.func11, Tryd.ntmps11
  go_wp2_with fail
  rw [HW.out]
  refine (module_ok H0.out.1 H.out.2.1 H.out.2.2.1 H.out.2.2.2.1 H.out.2.2.2.2).mono ?_
  rintro e w2 ⟨hh, vl, vf, rfl, hM, hk2⟩
  obtain ⟨vl', vf', e', -, hLs, hFs⟩ := id hM
  obtain ⟨rfl, rfl⟩ : vl = vl' ∧ vf = vf' := by simpa using e'
  obtain ⟨p1, n1, c1, rfl⟩ := hLs.form
  obtain ⟨p2, c2, rfl, -⟩ := id hFs
  have hbA := (hk2.block _ (Array.getElem?_eq_some_iff.1 H0.out.2.2.2.1).1 (by omega)).trans H0.out.2.2.2.1
  have hbB := (hk2.block _ (Array.getElem?_eq_some_iff.1 H0.out.2.2.2.2).1 (by omega)).trans H0.out.2.2.2.2
  obtain ⟨e0, e1, e2, ef⟩ := three_facts hbA
  have g0 : w2.cell? ⟨w.heap.size + 1, 0, none⟩ = some .nilIface := by rw [cell_of_row w2 _ 0 _ _ _ hbB]; rfl
  have gf : ∀ j, w2.frozen? ⟨w.heap.size + 1, j, none⟩ = false := fun j => by simp [World.frozen?, hbB]
  obtain ⟨hr9, hk9⟩ := threeSet_any (c0 := .string m.name) (c1 := .slice p1 n1 c1) (c2 := .slice p2 m.funcs.length c2) hbA
  have H2 := Lib.hid (And.intro hM (And.intro hk2 (And.intro hbB (And.intro hr9 hk9))))
  clear hM hk2 hbA hbB hr9 hk9 hLs hFs e'
  go_wp2_with fail
  change bodyPostD _ _ _ _ _ ((threeSet w2 w.heap.size (.string m.name) (.slice p1 n1 c1) (.slice p2 m.funcs.length c2)).setCell ⟨w.heap.size + 1, 0, none⟩ .nilIface)
  clear e0 e1 e2 ef g0 gf
  obtain ⟨w8, hw8⟩ : ∃ w8, threeSet w2 w.heap.size (.string m.name) (.slice p1 n1 c1) (.slice p2 m.funcs.length c2) = w8 := ⟨_, rfl⟩
  obtain ⟨w9, hw9⟩ : ∃ w9, w8.setCell ⟨w.heap.size + 1, 0, none⟩ .nilIface = w9 := ⟨_, rfl⟩
  rw [hw8, hw9]
  obtain ⟨hM, hk2, hbB, hr9, hk9⟩ := H2.out
  rw [hw8] at hr9 hk9
  have hkC : Kp (fun q => q = w.heap.size + 1) w8 w9 := by rw [← hw9]; exact (Kp.refl (fun q => q = w.heap.size + 1) w8).setCell _ _ (.inl rfl)
  have hrA := (hkC.block _ (Array.getElem?_eq_some_iff.1 hr9).1 (by omega)).trans hr9
  have hrB : w9.heap[w.heap.size + 1]? = some (.cells #[.nilIface] 35 (0, 0)) := by
    rw [← hw9]
    exact heap_set_same ((hk9.block _ (Array.getElem?_eq_some_iff.1 hbB).1 (by omega)).trans hbB) _
  obtain ⟨i0, i1, i2, -⟩ := three_facts hrA
  have g0 : w9.cell? ⟨w.heap.size + 1, 0, none⟩ = some .nilIface := by rw [cell_of_row w9 _ 0 _ _ _ hrB]; rfl
  have hk29 : Kp (fun q => q = w.heap.size ∨ q = w.heap.size + 1) w2 w9 := (hk9.mono fun _ _ e => .inl e).trans' (hkC.mono fun _ _ e => .inr e)
  have hz := H0.out.2.2.1
  have hM9 : MdAt (Own w.heap.size w9) w9 hh m [.string m.name, .slice p1 n1 c1, .slice p2 m.funcs.length c2] :=
    hM.imp (fun q e => ⟨by have := e.1; omega, Nat.lt_of_lt_of_le e.2 hk29.size⟩) (cells_kp hk29 fun q e e2 => by have := e.1; omega)
  have hk09 : Kp (fun _ => False) w w9 := kp_new (kp_new H0.out.2.1 (hk2.mono fun q _ e => .inr (by omega))) (hk29.mono fun q _ e => .inr (by omega))
  have HF := Lib.hid (And.intro hM9 hk09)
  clear hM hk2 hbB hr9 hk9 hkC hrA hrB hk29 hM9 hk09 hw8 hw9 hz H2
  refine leaves_cons (f := 25) (args := #[.pointer (some ⟨w.heap.size, 0, none⟩), .pointer (some ⟨w.heap.size + 1, 0, none⟩)]) (by simp) (by simp [go_sem]) ?_
  refine (read_idle ⟨w.heap.size, 0, none⟩ ⟨w.heap.size + 1, 0, none⟩ _).mono ?_
  rintro e u' w'' ⟨rfl, rfl, rfl⟩
  simp [Leaves, settle, results, Tryd.results11, go_sem, i0, i1, i2, g0]
  exact ⟨_, _, _, ⟨rfl, rfl⟩, HF.out.1, HF.out.2⟩
end Go.Proofs.YtaeoohjgdkablaaDoor

/- A call of a function, that may give up, as one step of a region that draws its order. -/
namespace Go.Proofs.YtaeoohjgdkablaaDoor
open Go.RowKit

section
variable {P : Program} {w : World}
theorem step_fn_or {ops : Array Oper} {o : Oper} {a : Act} {K : Act → World → Prop} {Q : Exit → Act → World → Prop} {E : Prop} (hgd : o.guard = none) (f : FuncId) (xs : Array Operand) (ts : Array TypeId)
    (ho : o.op = .call { callee := .value (.func f), args := xs, argTypes := ts }) (hcf : ∀ (args : Array Value) (w : World), (callFunc f args).run P w = .ok (.enter f args) w) (vs : Array Value) (hx : xs.map a.eval = vs)
    (Post : Value → World → Prop) (Bad : List PanicEntry → World → Prop) (h : Calls P f vs w fun e w' => (∃ v, e = .returned v ∧ Post v w') ∨ (∃ c, e = .panicked c ∧ Bad c w'))
    (hQ : ∀ c w', Bad c w' → Q (.panic c) a w') (hK : ∀ v w', Post v w' → K (a.put o.dst v) w') : if Region.wanted o (yielded ops a.tmps) = true then Oper.wp P o a w K Q else E := by
  have hw : Region.wanted o (yielded ops a.tmps) = true := by simp [Region.wanted, hgd]
  rw [if_pos hw]
  unfold Oper.wp
  rw [run_fn ho hcf hx, Oper.upon_enter]
  refine h.mono ?_
  rintro e w' (⟨v, rfl, hp⟩ | ⟨c, rfl, hq⟩)
  · exact hK v w' hp
  · exact hQ c w' hq
end
end Go.Proofs.YtaeoohjgdkablaaDoor
