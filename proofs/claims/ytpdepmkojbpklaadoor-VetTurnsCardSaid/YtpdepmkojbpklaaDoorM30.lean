/- What the laws of package vet share: their modules in memory, their chains, their common example. -/
import Derived.Test.YtpdepmkojbpklaaDoorM22
import Derived.Test.YtpdepmkojbpklaaDoorM29
/- What the laws of package vet share: their modules in memory, their chains, their common example. -/
namespace Go.Proofs.YtpdepmkojbpklaaDoor
open Go.RowKit

/- A JUMP BEYOND, A RETURN -/
theorem vcode_jump {nl : Nat} {fns : List Fn4} {f : Fn4} {l : Int} (h : ¬ (0 ≤ l ∧ l < f.code.length)) : vcode nl fns f ⟨4, l, 0, 0⟩ = some 13 := by
  have h4 : vop nl fns.length f.code.length f.slots 4 l = some 13 := by unfold vop vrng; simp; omega
  unfold vcode vins
  simp only [show vsh 4 0 = 4 from rfl, h4]
  simp
theorem jump_bad {nl : Nat} {fns : List Fn4} {i : Nat} : (FunGood nl fns i (fOf 0 0 [⟨4, 5, 0, 0⟩]) → False) ∧ ∀ (p : Nat) (k : Int), FunSlip nl fns i (fOf 0 0 [⟨4, 5, 0, 0⟩]) p k → p = 0 ∧ k = 13 := by
  have hv : vcode nl fns (fOf 0 0 [⟨4, 5, 0, 0⟩]) ⟨4, 5, 0, 0⟩ = some 13 := vcode_jump (by simp [fOf])
  exact ⟨fun hg => good_not hg (q := 0) rfl hv, fun p k hb => slip_first hb rfl hv (fun j _ hj => absurd hj (Nat.not_lt_zero j))⟩
theorem ret_right {nl : Nat} {fns : List Fn4} {i : Nat} {p : Nat} {k : Int} (hb : FunSlip nl fns i (fOf 0 0 [⟨15, 0, 0, 0⟩]) p k) : False := by
  obtain ⟨t, hr, hb⟩ := slip_walk hb (by
    intro j y hy
    match j, hy with
    | 0, hy => cases hy; exact vcode_ret
    | n + 1, hy => cases hy)
  obtain ⟨-, x, s', u, hx, hst, hm⟩ := stepBad_flat (by
    intro j y hy
    match j, hy with
    | 0, hy => cases hy; exact ⟨by simp, by simp⟩
    | n + 1, hy => cases hy) hr hb
  match p, hx with
  | 0, hx => cases hx; cases hst; simp at hm
  | n + 1, hx => cases hx
/-- a module in memory, as whole takes it -/
theorem whole_md {w : World} {hh : Nat} {lits : List Tm} {pl : Option Addr} {cl : Nat} {fns : List Fn4} {pf : Option Addr} {cf : Nat} (hL : ListAt (fun q => q < w.heap.size) w (TermAt (fun q => q < w.heap.size) w hh) lits (.slice pl lits.length cl))
    (hFs : FnsAt (fun q => q < w.heap.size) w fns (.slice pf fns.length cf)) (hl1 : lits.length ≤ 65536) (hlr : ∀ t ∈ lits, tok 200 t ∧ tsz hh t ≤ 65536) (hf1 : 1 ≤ fns.length) (hf2 : fns.length ≤ 256)
    (h12 : ∀ (i : Nat) (f : Fn4) (p : Nat) (x : In4), fns[i]? = some f → f.code[p]? = some x → x.op ≠ 12) (hg : Laid0 w) (w1 : World) (hk : Kp (fun _ => False) w w1) :
    Calls Tryd.prog 22 #[.agg #[.string ⟨#[]⟩, .slice pl lits.length cl, .slice pf fns.length cf]] w1 (WholePost lits.length fns w1) := by
  have hz := hk.size
  exact whole_any (hL.imp (fun q e => e) (fun b j u _ e => keeps_cell hk e) (fun t cs e => TermAt.imp (fun q e => e) (fun b j u _ e => keeps_cell hk e) _ t cs e)) (hFs.imp (fun q e => e) (fun b j u _ e => keeps_cell hk e))
    (fun q e => Nat.lt_of_lt_of_le e hz) (by decide) hl1 hlr hf1 hf2 h12 (laid0_kp hg hk)
/-- a function in memory -/
theorem fns_one {w : World} {g : Nat} {s : Int} {code : List In4} {po : Option Addr} {c : Nat} (hb : w.heap[g]? = some (.cells #[.string ⟨#[102]⟩, .int .i64 0, .int .i64 s, .slice po code.length c] 32 (0, 0))) (hs : 0 ≤ s ∧ s ≤ 32)
    (hc : CodeAt (fun q => q < w.heap.size) w code (.slice po code.length c)) : FnsAt (fun q => q < w.heap.size) w [fOf s 0 code] (.slice (some ⟨g, 0, none⟩) 1 1) := by
  refine ⟨_, 1, rfl, by simp, by simp, fun i f hi => ?_⟩
  obtain ⟨rfl, rfl⟩ := one_at hi
  refine ⟨g, 0, _, _, _, _, rfl, (Array.getElem?_eq_some_iff.1 hb).1, (cell_of_row w _ 0 _ _ _ hb).trans rfl, (cell_of_row w _ 1 _ _ _ hb).trans rfl, (cell_of_row w _ 2 _ _ _ hb).trans rfl, (cell_of_row w _ 3 _ _ _ hb).trans rfl, _, rfl, ?_, ?_, ?_, hc⟩
  · exact ⟨by simp only [fOf]; decide, by simp only [fOf]; decide⟩
  · unfold isI64; simp only [fOf]; omega
  · unfold maxLen; simp only [fOf]; decide
theorem lits_nil {w : World} {F : Nat → Prop} {p : Tm → List Value → Prop} : ListAt F w p [] (.slice none 0 0) := ⟨none, 0, rfl, by simp, by simp, fun i t hi => by simp at hi⟩
theorem vop12 {s : Int} {code : List In4} (h : ∀ x ∈ code, x.op ≠ 12) : ∀ (i : Nat) (f : Fn4) (p : Nat) (x : In4), [fOf s 0 code][i]? = some f → f.code[p]? = some x → x.op ≠ 12 := by
  intro i f p x hi hx
  obtain ⟨rfl, rfl⟩ := one_at hi
  exact h x (List.mem_of_getElem? hx)
/-- the chain that is wanted -/
theorem wrong_any (n k : Int) (hk0 : k ≠ 0) (w : World) : Calls Tryd.prog 14 #[.int .i64 n, .int .i64 k] w fun e w' => ∃ v, e = .returned v ∧ Chain w' v [Lk.fault modS 0, Lk.fault fnS 0, Lk.fault atS n, Lk.kind k] ∧ Kp (fun _ => False) w w' := by
  obtain ⟨w1, hw1⟩ : ∃ w1, w.alloc (.cells #[.string atS, .int .i64 n, .iface 42 (.int .i64 k)] 66) = w1 := ⟨_, rfl⟩
  have hz1 : w1.heap.size = w.heap.size + 1 := by rw [← hw1]; simp
  have hk1 : Kp (fun _ => False) w w1 := by rw [← hw1]; exact (Kp.refl _ w).alloc _
  have hb1 : w1.heap[w.heap.size]? = some (.cells #[.string atS, .int .i64 n, .iface 42 (.int .i64 k)] 66 (0, 0)) := by rw [← hw1]; exact heap_alloc_new w _
  obtain ⟨w2, hw2⟩ : ∃ w2, w1.alloc (.cells #[.string fnS, .int .i64 0, .iface 64 (.pointer (some ⟨w.heap.size, 0, none⟩))] 66) = w2 := ⟨_, rfl⟩
  have hz2 : w2.heap.size = w.heap.size + 1 + 1 := by rw [← hw2]; simp [hz1]
  have hk2 : Kp (fun _ => False) w1 w2 := by rw [← hw2]; exact (Kp.refl _ w1).alloc _
  have hb2 : w2.heap[w.heap.size + 1]? = some (.cells #[.string fnS, .int .i64 0, .iface 64 (.pointer (some ⟨w.heap.size, 0, none⟩))] 66 (0, 0)) := by rw [← hw2, ← hz1]; exact heap_alloc_new w1 _
  obtain ⟨w3, hw3⟩ : ∃ w3, w2.alloc (.cells #[.string modS, .int .i64 0, .iface 64 (.pointer (some ⟨w.heap.size + 1, 0, none⟩))] 66) = w3 := ⟨_, rfl⟩
  have hk3 : Kp (fun _ => False) w2 w3 := by rw [← hw3]; exact (Kp.refl _ w2).alloc _
  have hb3 : w3.heap[w.heap.size + 1 + 1]? = some (.cells #[.string modS, .int .i64 0, .iface 64 (.pointer (some ⟨w.heap.size + 1, 0, none⟩))] 66 (0, 0)) := by rw [← hw3, ← hz2]; exact heap_alloc_new w2 _
  have hch : Chain w3 (.iface 64 (.pointer (some ⟨w.heap.size + 1 + 1, 0, none⟩))) [Lk.fault modS 0, Lk.fault fnS 0, Lk.fault atS n, Lk.kind k] :=
    .inr ⟨rfl, _, _, rfl, hb3, .inr ⟨rfl, _, _, rfl, (hk3.block _ (by omega) (fun e => e)).trans hb2, .inr ⟨rfl, _, _, rfl, ((hk2.trans' hk3).block _ (by omega) (fun e => e)).trans hb1, .inl ⟨rfl, rfl, rfl, rfl, hk0⟩⟩⟩⟩
  have H := Lib.hid (And.intro hch (hk1.trans' (hk2.trans' hk3)))
  unfold atS at hw1
  unfold fnS at hw2
  unfold modS at hw3
  clear hk1 hk2 hk3 hb1 hb2 hb3 hch
  go_enter Tryd.func14, Tryd.ntmps14
  go_wp2_with fail
  go_ret
  exact ⟨_, rfl, H.out.1, H.out.2⟩
/-- what a module's chain says -/
theorem says_chain {B : Nat} {w : World} {v : Value} {n m k : Int} (h : ChainB B w v [Lk.fault modS n, Lk.fault fnS m, Lk.fault atS k, Lk.kind 13]) :
    ∃ p, v = .iface 64 (.pointer p) ∧ Says w 64 (.pointer p) (modS ++ ⟨#[58, 32]⟩ ++ (fnS ++ ⟨#[58, 32]⟩ ++ (atS ++ ⟨#[58, 32]⟩ ++ ⟨#[106, 117, 109, 112]⟩))) 94 := by
  rcases h with ⟨h, -⟩ | ⟨-, g1, v1, -, rfl, b1, h⟩
  · cases h
  rcases h with ⟨h, -⟩ | ⟨-, g2, v2, -, rfl, b2, h⟩
  · cases h
  rcases h with ⟨h, -⟩ | ⟨-, g3, v3, -, rfl, b3, h⟩
  · cases h
  rcases h with ⟨-, rfl, -⟩ | ⟨h, -⟩
  · have s3 := says_fault atS k g3 w (says_jump w) (by decide) (by decide) b3
    have s2 := says_fault fnS m g2 w s3 (by decide) (by decide) b2
    exact ⟨_, rfl, says_fault modS n g1 w s2 (by decide) (by decide) b1⟩
  · exact absurd h (by decide)
/-- a row of instructions that was made at once -/
theorem code_new {w : World} {g : Nat} {code : List In4} {cs : Array Value} (hb : w.heap[g]? = some (.cells cs 29 (0, 0))) (he : cs = (vinsCells code).toArray) (hl : code.length ≤ 100000) (hw : ∀ x ∈ code, x.wf) :
    CodeAt (fun q => q < w.heap.size) w code (.slice (some ⟨g, 0, none⟩) code.length code.length) := by
  subst he
  have ho : w.ownsRow 0 29 4 (.slice (some ⟨g, 0, none⟩) code.length code.length) code.length (vinsCells code) := by
    refine ⟨by rw [vinsCells_len], .inr ⟨g, _, _, rfl, Nat.zero_le _, hb, Nat.le_refl _, by unfold maxLen; omega, by simp [vinsCells_len], ?_⟩⟩
    rw [← vinsCells_len]
    exact List.take_length
  exact (vinsCells_at ho (by omega) hw).imp (fun q e => e.2) (fun _ _ _ _ e => e)
theorem says_text : modS ++ ⟨#[58, 32]⟩ ++ (fnS ++ ⟨#[58, 32]⟩ ++ (atS ++ ⟨#[58, 32]⟩ ++ ⟨#[106, 117, 109, 112]⟩)) = ⟨#[109, 111, 100, 117, 108, 101, 58, 32, 102, 117, 110, 99, 116, 105, 111, 110, 58, 32, 97, 116, 58, 32, 106, 117, 109, 112]⟩ := by kernel_rfl
theorem vm_fault (p : Option Addr) (w : World) : (Go.method 301 64 (.pointer p) "Error").run Tryd.prog w = .ok (94, .pointer p) w := by kernel_rfl
attribute [local go_sem] vm_fault
set_option maxRecDepth 100000 in
set_option maxHeartbeats 4000000 in
theorem vawake_any (w : World) (hg : Laid0 w) : Calls Tryd.prog 12 #[] w fun e w' => e = .returned (.bool true) ∧ Kp (fun _ => False) w w' := by
  obtain ⟨w1, hw1⟩ : ∃ w1, w.alloc (.cells #[.int .i64 4, .int .i64 5, .int .i64 0, .int .i64 0] 29) = w1 := ⟨_, rfl⟩
  have hk1 : Kp (fun _ => False) w w1 := by rw [← hw1]; exact (Kp.refl _ w).alloc _
  have hb1 : w1.heap[w.heap.size]? = some (.cells #[.int .i64 4, .int .i64 5, .int .i64 0, .int .i64 0] 29 (0, 0)) := by rw [← hw1]; exact heap_alloc_new w _
  have hc1 := code_new (code := [⟨4, 5, 0, 0⟩]) hb1 rfl (by simp) (by intro x hx; rw [List.mem_singleton] at hx; subst hx; exact ⟨⟨by decide, by decide⟩, ⟨by decide, by decide⟩, ⟨by decide, by decide⟩, ⟨by decide, by decide⟩⟩)
  have H1 := Lib.hid (And.intro hk1 (And.intro hc1 hg))
  clear hk1 hb1 hc1 hg
  go_enter Tryd.func12, Tryd.ntmps12
  go_wp2_with fail
  refine (one_any _ rfl _).mono ?_
  rintro e w2 ⟨g, rfl, hb2, hlo, hk2⟩
  have hz2 := hk2.size
  have hfs := fns_one (s := 0) (code := [⟨4, 5, 0, 0⟩]) hb2 (by omega) (H1.out.2.1.imp (fun q e => Nat.lt_of_lt_of_le e hz2) (fun _ _ _ _ e => keeps_cell hk2 e))
  have hg2 := laid0_kp H1.out.2.2 (H1.out.1.trans' hk2)
  have HM := Lib.hid (module_wrong (whole_md (hh := 0) lits_nil hfs (by simp) (by simp) (by simp) (by simp) (vop12 (by simp)) hg2) (fun h => jump_bad.1 (h 0 _ rfl)) (fun i f ls => one_wrong (head_f 0 0 _ [] (by omega) (by omega) (by simp)) jump_bad.2 i f ls))
  have H2 := Lib.hid (H1.out.1.trans' hk2)
  clear hk2 hb2 hfs hg2 hlo hz2
  go_wp2_with fail
  refine HM.out.mono ?_
  rintro e w3 ⟨v3, rfl, hch3, hk3⟩
  obtain ⟨p3, rfl, hs3⟩ := says_chain hch3
  have H3 := Lib.hid (And.intro hs3 (H2.out.trans' hk3))
  clear hch3 hk3 hs3
  obtain ⟨w4, hw4⟩ : ∃ w4, w3.alloc (.cells #[.int .i64 15, .int .i64 0, .int .i64 0, .int .i64 0] 29) = w4 := ⟨_, rfl⟩
  have hk4 : Kp (fun _ => False) w3 w4 := by rw [← hw4]; exact (Kp.refl _ w3).alloc _
  have hb4 : w4.heap[w3.heap.size]? = some (.cells #[.int .i64 15, .int .i64 0, .int .i64 0, .int .i64 0] 29 (0, 0)) := by rw [← hw4]; exact heap_alloc_new w3 _
  have hc4 := code_new (code := [⟨15, 0, 0, 0⟩]) hb4 rfl (by simp) (by intro x hx; rw [List.mem_singleton] at hx; subst hx; exact ⟨⟨by decide, by decide⟩, ⟨by decide, by decide⟩, ⟨by decide, by decide⟩, ⟨by decide, by decide⟩⟩)
  have H4 := Lib.hid (And.intro hk4 hc4)
  clear hk4 hb4 hc4
  simp only [id]
  go_wp2_with fail
  refine (one_any _ rfl _).mono ?_
  rintro e w5 ⟨g5, rfl, hb5, hlo, hk5⟩
  have hz5 := hk5.size
  have hfs := fns_one (s := 0) (code := [⟨15, 0, 0, 0⟩]) hb5 (by omega) (H4.out.2.imp (fun q e => Nat.lt_of_lt_of_le e hz5) (fun _ _ _ _ e => keeps_cell hk5 e))
  have hk35 := H4.out.1.trans' hk5
  have hg5 := laid0_kp H1.out.2.2 (H3.out.2.trans' hk35)
  have HM2 := Lib.hid (module_nil (whole_md (hh := 0) lits_nil hfs (by simp) (by simp) (by simp) (by simp) (vop12 (by simp)) hg5) (fun i f ls => one_right (head_f 0 0 _ [] (by omega) (by omega) (by simp)) (fun p k h => ret_right h) i f ls))
  have H5 := Lib.hid hk35
  clear hk5 hb5 hfs hg5 hlo hz5 hk35
  go_wp2_with fail
  refine HM2.out.mono ?_
  rintro e w6 ⟨rfl, hk6⟩
  have hk36 := H5.out.trans' hk6
  have HE := Lib.hid (H3.out.1.2 w6 hk36)
  have H6 := Lib.hid (H3.out.2.trans' hk36)
  clear hk6 hk36
  go_wp2_with fail
  refine HE.out.mono ?_
  rintro e w7 ⟨rfl, hk7⟩
  rw [says_text]
  have H7 := Lib.hid (H6.out.trans' hk7)
  clear hk7
  go_wp2_with fail
  go_ret
  exact ⟨rfl, H7.out⟩
end Go.Proofs.YtpdepmkojbpklaaDoor
