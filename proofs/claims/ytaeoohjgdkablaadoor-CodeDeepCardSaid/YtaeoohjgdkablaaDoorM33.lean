/- The chain with which the reader gave up. The bytes of the document's example. troupelaw00.Same and SameAll: two terms in memory are the same just if they are one as plain data. -/
import Derived.Test.YtaeoohjgdkablaaDoorM04
import Derived.Test.YtaeoohjgdkablaaDoorM11
import Derived.Test.YtaeoohjgdkablaaDoorM16
import Derived.Test.YtaeoohjgdkablaaDoorM30
import Derived.Test.YtaeoohjgdkablaaDoorM32
import Derived.Deep.RegionLaw
/- The chain with which the reader gave up. -/
namespace Go.Proofs.YtaeoohjgdkablaaDoor
open Go.RowKit

theorem as_err (v : Value) (W : World) : (Instr.typeAssert (.iface 39 v) 20 35 true).run Tryd.prog W = .ok (.tuple #[.iface 39 v, .bool true]) W := by kernel_rfl
set_option maxRecDepth 100000 in
theorem refusal_ok (g : Nat) (w : World) (hg : Laid0 w) :
    Calls Tryd.prog 26 #[.iface 39 (.pointer (some ⟨g, 0, none⟩))] w fun e w' => e = .returned (.iface 39 (.pointer (some ⟨g, 0, none⟩))) ∧ Kp (fun _ => False) w w' := by
  have A1 := as_err
  have HG := Lib.hid hg
  clear hg
  go_enter Tryd.func26, Tryd.ntmps26
  go_wp2_with fail
  refine (as_met g w HG.out).mono ?_
  rintro e w2 ⟨rfl, hk2, hb⟩
  have c0 : w2.cell? ⟨w.heap.size, 0, none⟩ = some (.pointer (some ⟨g, 0, none⟩)) := by rw [cell_of_row w2 _ 0 _ _ _ hb]; rfl
  have H2 := Lib.hid hk2
  clear hk2 hb
  go_wp2_with fail
  go_ret
  exact ⟨rfl, H2.out⟩
set_option maxRecDepth 100000 in
/-- the deferred closure, where the reader gave up -/
theorem read_refuse (p q g : Nat) (w : World) (d0 d1 d2 d3 : Value) (hg : Laid0 w) (hpq : p ≠ q) (hp : w.heap[p]? = some (.cells #[d0, d1, d2] 33 (0, 0))) (hq : w.heap[q]? = some (.cells #[d3] 35 (0, 0))) :
    CallsD Tryd.prog 25 #[.pointer (some ⟨p, 0, none⟩), .pointer (some ⟨q, 0, none⟩)] (.panicking [{ v := .iface 39 (.pointer (some ⟨g, 0, none⟩)), recovered := false }]) w fun e u' w' => e = .returned (.tuple #[]) ∧ u' = .panicking [{ v := .iface 39 (.pointer (some ⟨g, 0, none⟩)), recovered := true }] ∧
      w'.heap[p]? = some (.cells #[.string ⟨#[]⟩, .slice none 0 0, .slice none 0 0] 33 (0, 0)) ∧ w'.heap[q]? = some (.cells #[.iface 39 (.pointer (some ⟨g, 0, none⟩))] 35 (0, 0)) ∧ Kp (fun x => x = p ∨ x = q) w w' := by
  refine callsD_of_wpS Tryd.func25 rfl fun c₀ cs hu => ?_
  apply wpS_seq
  apply wpS_region
  simp [wpOpsS, go_sem, recoverD, hu, Tryd.ntmps25, Exit.thenS]
  apply wpS_seq
  apply wpS_region
  simp [wpOpsS, go_sem, Exit.thenS]
  refine wpS_cond (t := true) (by simp [Act.eval, Array.replicate]) ?_
  simp only [if_true]
  refine wpS_of_wp ?_
  simp only [Array.replicate]
  have HI := Lib.hid (And.intro hp (And.intro hq hu))
  clear hp hq hu
  go_wp2_with fail
  refine (refusal_ok g w hg).mono ?_
  rintro e w2 ⟨rfl, hk2⟩
  have hp2 := (hk2.block _ (Array.getElem?_eq_some_iff.1 HI.out.1).1 (fun e => e)).trans HI.out.1
  have hq2 := (hk2.block _ (Array.getElem?_eq_some_iff.1 HI.out.2.1).1 (fun e => e)).trans HI.out.2.1
  obtain ⟨e0, e1, e2, ef⟩ := three_facts hp2
  have g0 : w2.cell? ⟨q, 0, none⟩ = some d3 := by rw [cell_of_row w2 _ 0 _ _ _ hq2]; rfl
  have gf : w2.frozen? ⟨q, 0, none⟩ = false := by simp [World.frozen?, hq2]
  obtain ⟨hr9, hk9⟩ := threeSet_any (c0 := .string ⟨#[]⟩) (c1 := .slice none 0 0) (c2 := .slice none 0 0) hp2
  have hq8 := (hk9.block q (Array.getElem?_eq_some_iff.1 hq2).1 (fun e => hpq e.symm)).trans hq2
  obtain ⟨w8, hw8⟩ : ∃ w8, threeSet w2 p (.string ⟨#[]⟩) (.slice none 0 0) (.slice none 0 0) = w8 := ⟨_, rfl⟩
  have hw8' : threeSet w2 p (.string ⟨#[]⟩) (.slice none 0 0) (.slice none 0 0) = w8 := hw8
  rw [hw8] at hr9 hk9 hq8
  have hkC : Kp (fun x => x = q) w8 (w8.setCell ⟨q, 0, none⟩ (.iface 39 (.pointer (some ⟨g, 0, none⟩)))) := (Kp.refl (fun x => x = q) w8).setCell _ _ (.inl rfl)
  have hrA := (hkC.block p (Array.getElem?_eq_some_iff.1 hr9).1 hpq).trans hr9
  have hrB : (w8.setCell ⟨q, 0, none⟩ (.iface 39 (.pointer (some ⟨g, 0, none⟩)))).heap[q]? = some (.cells #[.iface 39 (.pointer (some ⟨g, 0, none⟩))] 35 (0, 0)) := heap_set_same hq8 _
  have HF := Lib.hid (And.intro hrA (And.intro hrB (((hk2.mono fun _ _ e => e.elim).trans' (hk9.mono fun _ _ e => .inl e)).trans' (hkC.mono fun _ _ e => .inr e) : Kp (fun x => x = p ∨ x = q) w _)))
  have HW := Lib.hid hw8
  clear hk2 hp2 hq2 hr9 hk9 hq8 hkC hrA hrB hw8 hw8'
  go_wp2_with fail
  change bodyPostS _ _ _ _ _ _ _ _ ((threeSet w2 p (.string ⟨#[]⟩) (.slice none 0 0) (.slice none 0 0)).setCell ⟨q, 0, none⟩ (.iface 39 (.pointer (some ⟨g, 0, none⟩))))
  rw [HW.out]
  clear e0 e1 e2 ef g0 gf
  obtain ⟨w9, hw9⟩ : ∃ w9, w8.setCell ⟨q, 0, none⟩ (.iface 39 (.pointer (some ⟨g, 0, none⟩))) = w9 := ⟨_, rfl⟩
  have hF := HF.out
  rw [hw9] at hF
  rw [hw9]
  have hF := Lib.hid hF
  clear hw9 HF HW
  simp [bodyPostS, results, Tryd.results25]
  exact hF.out

/-- the end of Read -/
def ReadPost (w : World) (l : List UInt8) (e : Ending) (w' : World) : Prop :=
  (∃ m hh po n c po2 n2 c2, e = .returned (.tuple #[.agg #[.string m.name, .slice po n c, .slice po2 n2 c2], .nilIface]) ∧ MdAt (Own w.heap.size w') w' hh m [.string m.name, .slice po n c, .slice po2 n2 c2] ∧ okMd m ∧ l = encM m ∧ Kp (fun _ => False) w w') ∨
  (∃ x, e = .returned (.tuple #[.agg #[.string ⟨#[]⟩, .slice none 0 0, .slice none 0 0], x]) ∧ (∃ n ls, ls ≠ [] ∧ Chain w' x (Lk.fault readS n :: ls)) ∧ (∀ m, okMd m → l ≠ encM m) ∧ (∀ m y, okMd m → l = encM m ++ y → Chain w' x [Lk.fault readS (encM m).length, Lk.kind 10]) ∧ Kp (fun _ => False) w w')

set_option maxRecDepth 100000 in
set_option maxHeartbeats 4000000 in
theorem read_any {F : Nat → Prop} {w : World} {v : Value} {l : List UInt8} (h : BytesAt F w l v) (hl : l.length ≤ 1000000000) (hg : Laid0 w) :
    Calls Tryd.prog 11 #[v] w (ReadPost w l) := by
  have hmf : ∀ (fn : Fn) (first cap : Array Value) (w : World), (Instr.makeFunc fn first cap).run Tryd.prog w = .ok (.func fn first cap) w := fun _ _ _ _ => rfl
  have h0 := bytes_any h
  obtain ⟨po, len, cap, rfl⟩ := h.form
  obtain ⟨w1, hw1⟩ : ∃ w1, ((w.alloc (.cells #[.string ⟨#[]⟩, .slice none 0 0, .slice none 0 0] 33)).alloc (.cells #[.nilIface] 35)).alloc (.cells #[.slice po len cap, .int .i64 0] 69) = w1 := ⟨_, rfl⟩
  have hk1 : Kp (fun _ => False) w w1 := by rw [← hw1]; exact (((Kp.refl _ w).alloc _).alloc _).alloc _
  have hr : RAt w1 (w.heap.size + 1 + 1) (.slice po len cap) l 0 := by
    refine ⟨?_, ?_, Nat.zero_le _⟩
    · rw [← hw1]
      have := heap_alloc_new ((w.alloc (.cells #[.string ⟨#[]⟩, .slice none 0 0, .slice none 0 0] 33)).alloc (.cells #[.nilIface] 35)) (.cells #[.slice po len cap, .int .i64 0] 69)
      simpa using this
    · exact (bytes_kp h0 hk1 (fun _ _ e => e)).imp (fun q e => by omega) (fun _ _ _ _ e => e)
  have hz : w1.heap.size = w.heap.size + 1 + 1 + 1 := by rw [← hw1]; simp
  have b0 : w1.heap[w.heap.size]? = some (.cells #[.string ⟨#[]⟩, .slice none 0 0, .slice none 0 0] 33 (0, 0)) := by
    rw [← hw1, Below.heap_alloc _ _ _ (by simp; omega), Below.heap_alloc _ _ _ (by simp)]; exact heap_alloc_new w _
  have b1 : w1.heap[w.heap.size + 1]? = some (.cells #[.nilIface] 35 (0, 0)) := by
    rw [← hw1, Below.heap_alloc _ _ _ (by simp)]
    have := heap_alloc_new (w.alloc (.cells #[.string ⟨#[]⟩, .slice none 0 0, .slice none 0 0] 33)) (.cells #[.nilIface] 35)
    simpa using this
  have H0 := Lib.hid (And.intro hr (And.intro hk1 (And.intro hz (And.intro b0 (And.intro b1 hg)))))
  have HW := Lib.hid hw1
  clear h h0 hr hw1 hk1 hz b0 b1 hg
  go_enter_defers Tryd.func11, Tryd.ntmps11
  go_wp2_with fail
  rw [HW.out]
  refine (module_any H0.out.1 hl).mono ?_
  rintro e w2 (⟨m, hh, p1, n1, c1, p2, n2, c2, rfl, hM, hmo, hml, hk2⟩ | ⟨hf, hno, hex⟩)
  · have hbA := (hk2.block _ (Array.getElem?_eq_some_iff.1 H0.out.2.2.2.1).1 (by omega)).trans H0.out.2.2.2.1
    have hbB := (hk2.block _ (Array.getElem?_eq_some_iff.1 H0.out.2.2.2.2.1).1 (by omega)).trans H0.out.2.2.2.2.1
    obtain ⟨e0, e1, e2, ef⟩ := three_facts hbA
    have g0 : w2.cell? ⟨w.heap.size + 1, 0, none⟩ = some .nilIface := by rw [cell_of_row w2 _ 0 _ _ _ hbB]; rfl
    have gf : ∀ j, w2.frozen? ⟨w.heap.size + 1, j, none⟩ = false := fun j => by simp [World.frozen?, hbB]
    obtain ⟨hr9, hk9⟩ := threeSet_any (c0 := .string m.name) (c1 := .slice p1 n1 c1) (c2 := .slice p2 n2 c2) hbA
    have H2 := Lib.hid (And.intro hM (And.intro hk2 (And.intro hbB (And.intro hr9 (And.intro hk9 (And.intro hmo hml))))))
    clear hM hk2 hbA hbB hr9 hk9 hmo hml
    go_wp2_with fail
    change bodyPostD _ _ _ _ _ ((threeSet w2 w.heap.size (.string m.name) (.slice p1 n1 c1) (.slice p2 n2 c2)).setCell ⟨w.heap.size + 1, 0, none⟩ .nilIface)
    clear e0 e1 e2 ef g0 gf
    obtain ⟨w8, hw8⟩ : ∃ w8, threeSet w2 w.heap.size (.string m.name) (.slice p1 n1 c1) (.slice p2 n2 c2) = w8 := ⟨_, rfl⟩
    obtain ⟨w9, hw9⟩ : ∃ w9, w8.setCell ⟨w.heap.size + 1, 0, none⟩ .nilIface = w9 := ⟨_, rfl⟩
    rw [hw8, hw9]
    obtain ⟨hM, hk2, hbB, hr9, hk9, hmo, hml⟩ := H2.out
    rw [hw8] at hr9 hk9
    have hkC : Kp (fun q => q = w.heap.size + 1) w8 w9 := by rw [← hw9]; exact (Kp.refl (fun q => q = w.heap.size + 1) w8).setCell _ _ (.inl rfl)
    have hrA := (hkC.block _ (Array.getElem?_eq_some_iff.1 hr9).1 (by omega)).trans hr9
    have hrB : w9.heap[w.heap.size + 1]? = some (.cells #[.nilIface] 35 (0, 0)) := by
      rw [← hw9]
      exact heap_set_same ((hk9.block _ (Array.getElem?_eq_some_iff.1 hbB).1 (by omega)).trans hbB) _
    obtain ⟨i0, i1, i2, -⟩ := three_facts hrA
    have g0 : w9.cell? ⟨w.heap.size + 1, 0, none⟩ = some .nilIface := by rw [cell_of_row w9 _ 0 _ _ _ hrB]; rfl
    have hk29 : Kp (fun q => q = w.heap.size ∨ q = w.heap.size + 1) w2 w9 := (hk9.mono fun _ _ e => .inl e).trans' (hkC.mono fun _ _ e => .inr e)
    have hz := H0.out.2.2.1
    have hM9 : MdAt (Own w.heap.size w9) w9 hh m [.string m.name, .slice p1 n1 c1, .slice p2 n2 c2] :=
      hM.imp (fun q e => ⟨by have := e.1; omega, Nat.lt_of_lt_of_le e.2 hk29.size⟩) (cells_kp hk29 fun q e e2 => by have := e.1; omega)
    have hk09 : Kp (fun _ => False) w w9 := kp_new (kp_new H0.out.2.1 (hk2.mono fun q _ e => .inr (by omega))) (hk29.mono fun q _ e => .inr (by omega))
    have HF := Lib.hid (show ReadPost w l (.returned (.tuple #[.agg #[.string m.name, .slice p1 n1 c1, .slice p2 n2 c2], .nilIface])) w9 from .inl ⟨m, hh, p1, n1, c1, p2, n2, c2, rfl, hM9, hmo, hml, hk09⟩)
    clear hM hk2 hbB hr9 hk9 hkC hrA hrB hk29 hM9 hk09 hw8 hw9 hz H2 hmo hml
    refine leaves_cons (f := 25) (args := #[.pointer (some ⟨w.heap.size, 0, none⟩), .pointer (some ⟨w.heap.size + 1, 0, none⟩)]) (by simp) (by simp [go_sem]) ?_
    refine (read_idle ⟨w.heap.size, 0, none⟩ ⟨w.heap.size + 1, 0, none⟩ _).mono ?_
    rintro e u' w'' ⟨rfl, rfl, rfl⟩
    simp [Leaves, settle, results, Tryd.results11, go_sem, i0, i1, i2, g0]
    exact HF.out
  · obtain ⟨x, n, ls, rfl, hch, hls, hk2⟩ := hf
    obtain ⟨g, rfl⟩ : ∃ g, x = .iface 39 (.pointer (some ⟨g, 0, none⟩)) := by
      rcases hch with ⟨h1, _⟩ | ⟨_, g, inner, _, h1, _⟩
      · exact absurd h1 hls
      · exact ⟨g, h1⟩
    have hbA := (hk2.block _ (Array.getElem?_eq_some_iff.1 H0.out.2.2.2.1).1 (by omega)).trans H0.out.2.2.2.1
    have hbB := (hk2.block _ (Array.getElem?_eq_some_iff.1 H0.out.2.2.2.2.1).1 (by omega)).trans H0.out.2.2.2.2.1
    have hlt := World.block_lt_of_cell? _ _ H0.out.2.2.2.2.2
    have hg2 : Laid0 w2 := (hk2.cell (by have := H0.out.2.2.1; simp only at hlt ⊢; omega) (by simp only; omega)).trans ((H0.out.2.1.cell hlt (fun e => e)).trans H0.out.2.2.2.2.2)
    have H2 := Lib.hid (And.intro hch (And.intro hk2 (And.intro hno (And.intro hex (And.intro hbA (And.intro hbB (And.intro hg2 hls)))))))
    clear hch hk2 hno hex hbA hbB hg2 hls hlt
    go_wp2_with fail
    refine leaves_cons (f := 25) (args := #[.pointer (some ⟨w.heap.size, 0, none⟩), .pointer (some ⟨w.heap.size + 1, 0, none⟩)]) (by simp) (by simp [go_sem]) ?_
    refine (read_refuse w.heap.size (w.heap.size + 1) g w2 _ _ _ _ H2.out.2.2.2.2.2.2.1 (by omega) H2.out.2.2.2.2.1 H2.out.2.2.2.2.2.1).mono ?_
    rintro e u' w9 ⟨rfl, rfl, hrA, hrB, hk9⟩
    obtain ⟨i0, i1, i2, -⟩ := three_facts hrA
    have g0 : w9.cell? ⟨w.heap.size + 1, 0, none⟩ = some (.iface 39 (.pointer (some ⟨g, 0, none⟩))) := by rw [cell_of_row w9 _ 0 _ _ _ hrB]; rfl
    have hz := H0.out.2.2.1
    have kc : ∀ {ls}, ChainB w1.heap.size w2 (.iface 39 (.pointer (some ⟨g, 0, none⟩))) ls → Chain w9 (.iface 39 (.pointer (some ⟨g, 0, none⟩))) ls := fun h => (ChainB.kp hk9 (fun q e => by omega) h).out
    have hk09 : Kp (fun _ => False) w w9 := kp_new (kp_new H0.out.2.1 (H2.out.2.1.mono fun q _ e => .inr (by omega))) (hk9.mono fun q _ e => .inr (by omega))
    have HF := Lib.hid (show ReadPost w l (.returned (.tuple #[.agg #[.string ⟨#[]⟩, .slice none 0 0, .slice none 0 0], .iface 39 (.pointer (some ⟨g, 0, none⟩))])) w9 from .inr ⟨_, rfl, ⟨n, ls, H2.out.2.2.2.2.2.2.2, kc H2.out.1⟩, H2.out.2.2.1, fun m y hm he => by
      obtain ⟨v, e1, e2⟩ := H2.out.2.2.2.1 m y hm he
      injection e1 with e1
      injection e1 with e1
      injection e1 with e1
      subst e1
      exact kc e2, hk09⟩)
    clear hrA hrB hk9 hk09 kc H2 hz
    simp [Leaves, settle, results, Tryd.results11, go_sem, i0, i1, i2, g0]
    exact HF.out
end Go.Proofs.YtaeoohjgdkablaaDoor

/- The bytes of the document's example. -/
namespace Go.Proofs.YtaeoohjgdkablaaDoor
open Go.RowKit

theorem kb_new {w w' : World} (h : Kb w.heap.size w w') : Kp (fun _ => False) w w' := Kp.mono h fun q hq e => by have := e.1; omega
theorem encM_zero : encM ⟨⟨#[]⟩, [], []⟩ = [84, 82, 80, 69, 0, 0, 0] := by
  simp [encM, encB, encL, encTs, encFs, encNat_small]
theorem md_zero (F : Nat → Prop) (w : World) : MdAt F w 1 ⟨⟨#[]⟩, [], []⟩ [.string ⟨#[]⟩, .slice none 0 0, .slice none 0 0] :=
  ⟨_, _, rfl, by decide, ⟨none, 0, rfl, by simp, by simp, fun i t h => by simp at h⟩, ⟨none, 0, rfl, by simp, by simp, fun i t h => by simp at h⟩⟩
set_option maxRecDepth 100000 in
theorem cdAwake_any (w : World) : Calls Tryd.prog 10 #[] w fun e w' => e = .returned (.bool true) ∧ Kp (fun _ => False) w w' := by
  go_enter Tryd.func10, Tryd.ntmps10
  go_wp2_with fail
  refine (write_any (Nat.le_refl _) (md_zero _ w) (by rw [encM_zero]; decide)).mono ?_
  rintro e w' (⟨⟨po, n, c, rfl, hb, hk⟩, -⟩ | ⟨v, rfl, hk, ⟨i, T, _, _, hi, _⟩ | ⟨_, i, f, hi, _⟩⟩)
  · rw [encM_zero] at hb
    have hcv := conv_any (hb.at' (by decide))
    rw [show strB [84, 82, 80, 69, 0, 0, 0] = ⟨#[84, 82, 80, 69, 0, 0, 0]⟩ from rfl] at hcv
    have H := Lib.hid (kb_new hk)
    clear hb hk
    go_wp2_with fail
    go_ret
    exact ⟨rfl, H.out⟩
  · simp at hi
  · simp at hi
end Go.Proofs.YtaeoohjgdkablaaDoor

/- troupelaw00.Same and SameAll: two terms in memory are the same just if they are one as plain data. -/
namespace Go.Proofs.YtaeoohjgdkablaaDoor
open Go.RowKit

noncomputable def eqB (p : Prop) : Bool := @decide p (Classical.propDecidable p)
theorem eqB_true {p : Prop} (h : p) : eqB p = true := by unfold eqB; simpa using h
theorem eqB_false {p : Prop} (h : ¬ p) : eqB p = false := by unfold eqB; simpa using h
theorem eqB_iff {p : Prop} : eqB p = true ↔ p := by unfold eqB; simp
theorem strB_inj {a b : List UInt8} (h : strB a = strB b) : a = b := by
  have := congrArg (fun s : ByteArray => s.data.toList) h
  simpa [strB] using this
noncomputable def sameB (a b : Tm) : Bool := eqB (a = b)
theorem sameB_true {a b : Tm} (h : a = b) : sameB a b = true := eqB_true h
theorem sameB_false {a b : Tm} (h : ¬ a = b) : sameB a b = false := eqB_false h
def SameIs (h : Nat) : Prop := ∀ (F1 F2 : Nat → Prop) (w : World) (T1 T2 : Tm) (cs1 cs2 : List Value), TermAt F1 w h T1 cs1 → TermAt F2 w h T2 cs2 →
  Calls Tryd.prog 43 #[.agg cs1.toArray, .agg cs2.toArray] w fun e w' => e = .returned (.bool (sameB T1 T2)) ∧ Kp (fun _ => False) w w'
theorem cf_same (args : Array Value) (w : World) : (callFunc 43 args).run Tryd.prog w = .ok (.enter 43 args) w := by kernel_rfl
theorem lists_take {l m : List Tm} (hl : l.length = m.length) {j : Nat} (h : ∀ i, i < j → l[i]? = m[i]?) (hj : j = l.length) : l = m := by
  refine List.ext_getElem? fun i => ?_
  by_cases hi : i < j
  · exact h i hi
  · rw [List.getElem?_eq_none (by omega), List.getElem?_eq_none (by omega)]

set_option maxRecDepth 100000 in
set_option maxHeartbeats 2000000 in
theorem sameAll_of {h : Nat} (ih : SameIs h) {F1 F2 : Nat → Prop} {w : World} {l m : List Tm} {v1 v2 : Value} (h1 : ListAt F1 w (TermAt F1 w h) l v1) (h2 : ListAt F2 w (TermAt F2 w h) m v2) :
    Calls Tryd.prog 28 #[v1, v2] w fun e w' => e = .returned (.bool (eqB (l = m))) ∧ Kp (fun _ => False) w w' := by
  obtain ⟨po, cap, rfl, hc1, hl1, he1⟩ := h1
  obtain ⟨po2, cap2, rfl, hc2, hl2, he2⟩ := h2
  by_cases hlen : l.length = m.length
  · have hne : ((l.length : Int) != (m.length : Int)) = false := by simp [hlen]
    have HE := Lib.hid (And.intro he1 he2)
    clear he1 he2
    go_enter Tryd.func28, Tryd.ntmps28
    go_wp2_with fail
    go_loopg [5] l.length (fun gk jj wr => ∃ (j : Nat), j ≤ l.length ∧ gk = l.length - j ∧ jj = .int .i64 j ∧ (∀ i, i < j → l[i]? = m[i]?) ∧ Kp (fun _ => False) w wr)
    case atStart => exact ⟨0, by omega, rfl, rfl, fun i hi => by omega, Kp.refl _ _⟩
    case round =>
      obtain ⟨j, hj, rfl, rfl, hs, hk⟩ := hrel
      by_cases hlt : j < l.length
      · obtain ⟨t, ht⟩ : ∃ t, l[j]? = some t := ⟨l[j], List.getElem?_eq_getElem hlt⟩
        obtain ⟨t', ht'⟩ : ∃ t, m[j]? = some t := ⟨m[j], List.getElem?_eq_getElem (by omega)⟩
        obtain ⟨b, off, c0, c1, c2, c3, c4, c5, rfl, hF, a0, a1, a2, a3, a4, a5, hp⟩ := HE.out.1 j t ht
        obtain ⟨b', off', d0, d1, d2, d3, d4, d5, rfl, hF', e0, e1, e2, e3, e4, e5, hp'⟩ := HE.out.2 j t' ht'
        have HT := Lib.hid (fun (wx : World) (k : Kp (fun _ => False) w wx) => ih F1 F2 wx t t' _ _ (hp.kp k fun _ _ e => e) (hp'.kp k fun _ _ e => e))
        obtain ⟨wd, hwd⟩ : ∃ wd, wr.drew = wd := ⟨_, rfl⟩
        have hkd : Kp (fun _ => False) w wd := by rw [← hwd]; exact hk.drew
        have kc : ∀ b i u, w.cell? ⟨b, i, none⟩ = some u → wd.cell? ⟨b, i, none⟩ = some u := fun b i u e => cells_kp hkd (F := fun _ => True) (fun _ _ e => e) b i u trivial e
        replace a0 := kc _ _ _ a0
        replace a1 := kc _ _ _ a1
        replace a2 := kc _ _ _ a2
        replace a3 := kc _ _ _ a3
        replace a4 := kc _ _ _ a4
        replace a5 := kc _ _ _ a5
        replace e0 := kc _ _ _ e0
        replace e1 := kc _ _ _ e1
        replace e2 := kc _ _ _ e2
        replace e3 := kc _ _ _ e3
        replace e4 := kc _ _ _ e4
        replace e5 := kc _ _ _ e5
        have hli : (j : Int) < l.length := by omega
        have hlm : (j : Int) < m.length := by omega
        obtain ⟨k1, n1, s1, x1, y1, z1, x2, y2, z2, x3, y3, z3, hcs⟩ := hp.form
        obtain ⟨k2, n2, s2, x4, y4, z4, x5, y5, z5, x6, y6, z6, hcs2⟩ := hp'.form
        simp only [List.cons.injEq, and_true] at hcs hcs2
        obtain ⟨rfl, rfl, rfl, rfl, rfl, rfl⟩ := hcs
        obtain ⟨rfl, rfl, rfl, rfl, rfl, rfl⟩ := hcs2
        by_cases htt : t = t'
        · have H := Lib.hid (And.intro hs (And.intro hkd (And.intro ht (And.intro ht' (And.intro htt hlen)))))
          rw [← hwd] at a0 a1 a2 a3 a4 a5 e0 e1 e2 e3 e4 e5
          have hw2 := Lib.hid hwd
          clear hs hk hkd ht ht' htt hwd hp hp' kc hlen
          go_wp2_with fail
          go_region_law (refine step_fn (by rfl) 43 #[.tmp 20, .tmp 24] #[25, 25] (by rfl) cf_same #[.agg #[.int .i64 k1, .int .i64 n1, .string s1, .slice x1 y1 z1, .slice x2 y2 z2, .slice x3 y3 z3], .agg #[.int .i64 k2, .int .i64 n2, .string s2, .slice x4 y4 z4, .slice x5 y5 z5, .slice x6 y6 z6]] (by first | (simp [Act.eval]; done) | simp [Act.eval, Act.put]) ?_; refine (HT.out _ (by rw [hw2.out]; exact H.out.2.1)).mono ?_; rintro e w5 ⟨rfl, hk5⟩; refine ⟨_, rfl, ?_⟩; rw [sameB_true H.out.2.2.2.2.1]; have H5 := Lib.hid (H.out.2.1.trans' (hw2.out ▸ hk5)); clear hk5)
          all_goals
            go_wp2_with fail
            go_roundg (l.length - (j + 1))
            case measure => omega
            case rel => exact ⟨j + 1, by omega, rfl, by go_num, fun i hi => by
              by_cases e : i < j
              · exact H.out.1 i e
              · obtain rfl : i = j := by omega
                rw [H.out.2.2.1, H.out.2.2.2.1, H.out.2.2.2.2.1], H5.out⟩
        · have hno : ¬ l = m := fun e => by rw [e, ht'] at ht; exact htt (Option.some.inj ht).symm
          have H := Lib.hid (And.intro hno (And.intro hkd htt))
          rw [← hwd] at a0 a1 a2 a3 a4 a5 e0 e1 e2 e3 e4 e5
          have hw2 := Lib.hid hwd
          clear hs hk hkd ht ht' htt hwd hp hp' kc hno hlen
          go_wp2_with fail
          go_region_law (refine step_fn (by rfl) 43 #[.tmp 20, .tmp 24] #[25, 25] (by rfl) cf_same #[.agg #[.int .i64 k1, .int .i64 n1, .string s1, .slice x1 y1 z1, .slice x2 y2 z2, .slice x3 y3 z3], .agg #[.int .i64 k2, .int .i64 n2, .string s2, .slice x4 y4 z4, .slice x5 y5 z5, .slice x6 y6 z6]] (by first | (simp [Act.eval]; done) | simp [Act.eval, Act.put]) ?_; refine (HT.out _ (by rw [hw2.out]; exact H.out.2.1)).mono ?_; rintro e w5 ⟨rfl, hk5⟩; refine ⟨_, rfl, ?_⟩; rw [sameB_false H.out.2.2]; have H5 := Lib.hid (H.out.2.1.trans' (hw2.out ▸ hk5)); clear hk5)
          all_goals
            go_wp2_with fail
            go_ret
            exact ⟨by rw [eqB_false H.out.1]; rfl, H5.out⟩
      · have hfin := lists_take hlen hs (by omega)
        have H := Lib.hid (And.intro hfin hk)
        obtain rfl : j = l.length := by omega
        clear hs hk hfin hlen
        go_wp2_with fail
        go_ret
        exact ⟨by rw [eqB_true H.out.1]; rfl, H.out.2⟩
  · have hne : ((l.length : Int) != (m.length : Int)) = true := by simp; omega
    have hno : ¬ l = m := fun e => hlen (by rw [e])
    have H := Lib.hid hno
    clear hno hlen he1 he2
    go_enter Tryd.func28, Tryd.ntmps28
    go_wp2_with fail
    go_ret
    exact ⟨by rw [eqB_false H.out]; rfl, Kp.refl _ _⟩

set_option maxRecDepth 100000 in
set_option maxHeartbeats 2000000 in
theorem same_succ {h : Nat} (ih : SameIs h) : SameIs (h + 1) := by
  intro F1 F2 w T1 T2 cs1 cs2 ht1 ht2
  obtain ⟨k1, n1, s1, it1, re1, by1⟩ := T1
  obtain ⟨k2, n2, s2, it2, re2, by2⟩ := T2
  obtain ⟨vi1, vr1, vb1, rfl, hb1, li1, lr1, lb1⟩ := ht1
  obtain ⟨vi2, vr2, vb2, rfl, hb2, li2, lr2, lb2⟩ := ht2
  obtain ⟨w1, hw1⟩ : ∃ w1, (w.alloc (.cells #[.int .i64 k1, .int .i64 n1, .string s1, vi1, vr1, vb1] 25)).alloc (.cells #[.int .i64 k2, .int .i64 n2, .string s2, vi2, vr2, vb2] 25) = w1 := ⟨_, rfl⟩
  have hk1 : Kp (fun _ => False) w w1 := by rw [← hw1]; exact ((Kp.refl _ w).alloc _).alloc _
  obtain ⟨pi1, li1', ci1, rfl⟩ := li1.form
  obtain ⟨pr1, lr1', cr1, rfl⟩ := lr1.form
  obtain ⟨pb1, lb1', cb1, rfl⟩ := lb1.form
  obtain ⟨pi2, li2', ci2, rfl⟩ := li2.form
  obtain ⟨pr2, lr2', cr2, rfl⟩ := lr2.form
  obtain ⟨pb2, lb2', cb2, rfl⟩ := lb2.form
  have hcv1 := conv_any (bytes_kp lb1 hk1 (fun _ _ e => e))
  have hcv2 := conv_any (bytes_kp lb2 hk1 (fun _ _ e => e))
  rw [← hw1] at hcv1 hcv2
  have HA := Lib.hid (sameAll_of ih (li1.imp (fun _ e => e) (cells_kp hk1 fun _ _ e => e) (fun t cs e => TermAt.kp e hk1 fun _ _ e => e)) (li2.imp (fun _ e => e) (cells_kp hk1 fun _ _ e => e) (fun t cs e => TermAt.kp e hk1 fun _ _ e => e)))
  have HB := Lib.hid (fun (wx : World) (k : Kp (fun _ => False) w1 wx) => sameAll_of ih (lr1.imp (fun _ e => e) (cells_kp (hk1.trans' k) fun _ _ e => e) (fun t cs e => TermAt.kp e (hk1.trans' k) fun _ _ e => e)) (lr2.imp (fun _ e => e) (cells_kp (hk1.trans' k) fun _ _ e => e) (fun t cs e => TermAt.kp e (hk1.trans' k) fun _ _ e => e)))
  have HK := Lib.hid (And.intro hk1 hw1)
  clear hk1 hw1 li1 lr1 lb1 li2 lr2 lb2 hb1 hb2
  by_cases e1 : k1 = k2
  · subst e1
    by_cases e2 : n1 = n2
    · subst e2
      by_cases e3 : s1 = s2
      · subst e3
        by_cases e4 : by1 = by2
        · subst e4
          obtain ⟨S, hS⟩ : ∃ S, strB by1 = S := ⟨_, rfl⟩
          rw [hS] at hcv1 hcv2
          clear hS
          go_enter Tryd.func43, Tryd.ntmps43
          go_wp2_with fail
          have HA' := HA.out
          rw [← HK.out.2] at HA'
          refine HA'.mono ?_
          rintro e w2 ⟨rfl, hk2⟩
          rw [HK.out.2] at hk2
          by_cases e5 : it1 = it2
          · rw [eqB_true e5]
            have hbx1 := hk2.block w.heap.size (by rw [← HK.out.2]; simp; omega) (fun e => e)
            have hbx2 := hk2.block (w.heap.size + 1) (by rw [← HK.out.2]; simp) (fun e => e)
            have hc1 : w2.heap[w.heap.size]? = some (.cells #[.int .i64 k1, .int .i64 n1, .string s1, .slice pi1 li1' ci1, .slice pr1 lr1' cr1, .slice pb1 lb1' cb1] 25 (0, 0)) := by
              rw [hbx1, ← HK.out.2, Below.heap_alloc _ _ _ (by simp)]; exact heap_alloc_new w _
            have hc2 : w2.heap[w.heap.size + 1]? = some (.cells #[.int .i64 k1, .int .i64 n1, .string s1, .slice pi2 li2' ci2, .slice pr2 lr2' cr2, .slice pb2 lb2' cb2] 25 (0, 0)) := by
              rw [hbx2, ← HK.out.2]
              have := heap_alloc_new (w.alloc (.cells #[.int .i64 k1, .int .i64 n1, .string s1, .slice pi1 li1' ci1, .slice pr1 lr1' cr1, .slice pb1 lb1' cb1] 25)) (.cells #[.int .i64 k1, .int .i64 n1, .string s1, .slice pi2 li2' ci2, .slice pr2 lr2' cr2, .slice pb2 lb2' cb2] 25)
              simpa using this
            have g1 : w2.cell? ⟨w.heap.size, 4, none⟩ = some (.slice pr1 lr1' cr1) := by rw [cell_of_row w2 _ 4 _ _ _ hc1]; rfl
            have g2 : w2.cell? ⟨w.heap.size + 1, 4, none⟩ = some (.slice pr2 lr2' cr2) := by rw [cell_of_row w2 _ 4 _ _ _ hc2]; rfl
            have H2 := Lib.hid (And.intro hk2 e5)
            clear hbx1 hbx2 hc1 hc2 hk2 e5 hcv1 hcv2
            go_wp2_with fail
            refine (HB.out _ H2.out.1).mono ?_
            rintro e w3 ⟨rfl, hk3⟩
            by_cases e6 : re1 = re2
            · rw [eqB_true e6]
              have H3 := Lib.hid (And.intro hk3 e6)
              clear hk3 e6
              go_wp2_with fail
              go_ret
              exact ⟨by rw [sameB_true (show Tm.mk k1 n1 s1 it1 re1 by1 = Tm.mk k1 n1 s1 it2 re2 by1 by rw [H2.out.2, H3.out.2])]; rfl, HK.out.1.trans' (H2.out.1.trans' H3.out.1)⟩
            · rw [eqB_false e6]
              have H3 := Lib.hid (And.intro hk3 e6)
              clear hk3 e6
              go_wp2_with fail
              go_ret
              exact ⟨by rw [sameB_false (show ¬ (Tm.mk k1 n1 s1 it1 re1 by1 = Tm.mk k1 n1 s1 it2 re2 by1) from fun e => H3.out.2 (Tm.mk.inj e).2.2.2.2.1)]; rfl, HK.out.1.trans' (H2.out.1.trans' H3.out.1)⟩
          · rw [eqB_false e5]
            have H2 := Lib.hid (And.intro hk2 e5)
            clear hk2 e5
            go_wp2_with fail
            go_ret
            exact ⟨by rw [sameB_false (show ¬ (Tm.mk k1 n1 s1 it1 re1 by1 = Tm.mk k1 n1 s1 it2 re2 by1) from fun e => H2.out.2 (Tm.mk.inj e).2.2.2.1)]; rfl, HK.out.1.trans' H2.out.1⟩
        · have hss := str_ne (fun e => e4 (strB_inj e))
          obtain ⟨S, hS⟩ : ∃ S, strB by1 = S := ⟨_, rfl⟩
          obtain ⟨S2, hS2⟩ : ∃ S, strB by2 = S := ⟨_, rfl⟩
          rw [hS] at hcv1 hss
          rw [hS2] at hcv2 hss
          have H4 := Lib.hid (show ¬ (Tm.mk k1 n1 s1 it1 re1 by1 = Tm.mk k1 n1 s1 it2 re2 by2) from fun e => e4 (Tm.mk.inj e).2.2.2.2.2)
          clear hS hS2 e4
          go_enter Tryd.func43, Tryd.ntmps43
          go_wp2_with fail
          go_ret
          exact ⟨by rw [sameB_false H4.out]; rfl, by rw [HK.out.2]; exact HK.out.1⟩
      · have hss := str_ne e3
        have H4 := Lib.hid (show ¬ (Tm.mk k1 n1 s1 it1 re1 by1 = Tm.mk k1 n1 s2 it2 re2 by2) from fun e => e3 (Tm.mk.inj e).2.2.1)
        clear e3
        go_enter Tryd.func43, Tryd.ntmps43
        go_wp2_with fail
        go_ret
        exact ⟨by rw [sameB_false H4.out]; rfl, by rw [HK.out.2]; exact HK.out.1⟩
    · have hss : (n1 == n2) = false := by simpa using e2
      have H4 := Lib.hid (show ¬ (Tm.mk k1 n1 s1 it1 re1 by1 = Tm.mk k1 n2 s2 it2 re2 by2) from fun e => e2 (Tm.mk.inj e).2.1)
      clear e2
      go_enter Tryd.func43, Tryd.ntmps43
      go_wp2_with fail
      go_ret
      exact ⟨by rw [sameB_false H4.out]; rfl, by rw [HK.out.2]; exact HK.out.1⟩
  · have hss : (k1 == k2) = false := by simpa using e1
    have H4 := Lib.hid (show ¬ (Tm.mk k1 n1 s1 it1 re1 by1 = Tm.mk k2 n2 s2 it2 re2 by2) from fun e => e1 (Tm.mk.inj e).1)
    clear e1
    go_enter Tryd.func43, Tryd.ntmps43
    go_wp2_with fail
    go_ret
    exact ⟨by rw [sameB_false H4.out]; rfl, by rw [HK.out.2]; exact HK.out.1⟩
theorem same_all : ∀ h, SameIs h
  | 0 => fun _ _ _ _ _ _ _ h _ => h.elim
  | h + 1 => same_succ (same_all h)
end Go.Proofs.YtaeoohjgdkablaaDoor
