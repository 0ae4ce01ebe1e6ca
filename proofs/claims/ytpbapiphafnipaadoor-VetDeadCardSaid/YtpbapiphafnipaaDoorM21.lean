/- What the laws of package vet share: their modules in memory, their chains, their common example. Tries in one another, as many ends. -/
import Derived.Test.YtpbapiphafnipaaDoorM20
/- What the laws of package vet share: their modules in memory, their chains, their common example. -/
namespace Go.Proofs.YtpbapiphafnipaaDoor
open Go.RowKit

/- A JUMP BEYOND, A RETURN -/
theorem vcode_jump {nl : Nat} {fns : List Fn4} {f : Fn4} {l : Int} (h : ¬ (0 ≤ l ∧ l < f.code.length)) : vcode nl fns f ⟨4, l, 0, 0⟩ = some 13 := by
  have h4 : vop nl fns.length f.code.length f.slots 4 l = some 13 := by unfold vop vrng; simp; omega
  unfold vcode vins
  simp only [show vsh 4 0 = 4 from rfl, h4]
  simp
theorem jump_bad {nl : Nat} {fns : List Fn4} {i : Nat} : (FunGood nl fns i (fOf 0 0 [⟨4, 5, 0, 0⟩]) → False) ∧ ∀ (p : Nat) (k : Int), FunSlip nl fns i (fOf 0 0 [⟨4, 5, 0, 0⟩]) p k → p = 0 ∧ k = 13 := by
  have hv : vcode nl fns (fOf 0 0 [⟨4, 5, 0, 0⟩]) ⟨4, 5, 0, 0⟩ = some 13 := vcode_jump (by simp [fOf])
  exact ⟨fun hg => good_not hg (q := 0) rfl hv, fun p k hb => slip_first hb rfl hv (fun j _ hj => absurd hj (Nat.not_lt_zero j))⟩
theorem ret_right {nl : Nat} {fns : List Fn4} {i : Nat} {p : Nat} {k : Int} (hb : FunSlip nl fns i (fOf 0 0 [⟨15, 0, 0, 0⟩]) p k) : False := by
  obtain ⟨t, hr, hb⟩ := slip_walk hb (by
    intro j y hy
    match j, hy with
    | 0, hy => cases hy; exact vcode_ret
    | n + 1, hy => cases hy)
  obtain ⟨-, x, s', u, hx, hst, hm⟩ := stepBad_flat (by
    intro j y hy
    match j, hy with
    | 0, hy => cases hy; exact ⟨by simp, by simp⟩
    | n + 1, hy => cases hy) hr hb
  match p, hx with
  | 0, hx => cases hx; cases hst; simp at hm
  | n + 1, hx => cases hx
/-- a module in memory, as whole takes it -/
theorem whole_md {w : World} {hh : Nat} {lits : List Tm} {pl : Option Addr} {cl : Nat} {fns : List Fn4} {pf : Option Addr} {cf : Nat} (hL : ListAt (fun q => q < w.heap.size) w (TermAt (fun q => q < w.heap.size) w hh) lits (.slice pl lits.length cl))
    (hFs : FnsAt (fun q => q < w.heap.size) w fns (.slice pf fns.length cf)) (hl1 : lits.length ≤ 65536) (hlr : ∀ t ∈ lits, tok 200 t ∧ tsz hh t ≤ 65536) (hf1 : 1 ≤ fns.length) (hf2 : fns.length ≤ 256)
    (h12 : ∀ (i : Nat) (f : Fn4) (p : Nat) (x : In4), fns[i]? = some f → f.code[p]? = some x → x.op ≠ 12) (hg : Laid0 w) (w1 : World) (hk : Kp (fun _ => False) w w1) :
    Calls Tryd.prog 22 #[.agg #[.string ⟨#[]⟩, .slice pl lits.length cl, .slice pf fns.length cf]] w1 (WholePost lits.length fns w1) := by
  have hz := hk.size
  exact whole_any (hL.imp (fun q e => e) (fun b j u _ e => keeps_cell hk e) (fun t cs e => TermAt.imp (fun q e => e) (fun b j u _ e => keeps_cell hk e) _ t cs e)) (hFs.imp (fun q e => e) (fun b j u _ e => keeps_cell hk e))
    (fun q e => Nat.lt_of_lt_of_le e hz) (by decide) hl1 hlr hf1 hf2 h12 (laid0_kp hg hk)
/-- a function in memory -/
theorem fns_one {w : World} {g : Nat} {s : Int} {code : List In4} {po : Option Addr} {c : Nat} (hb : w.heap[g]? = some (.cells #[.string ⟨#[102]⟩, .int .i64 0, .int .i64 s, .slice po code.length c] 32 (0, 0))) (hs : 0 ≤ s ∧ s ≤ 32)
    (hc : CodeAt (fun q => q < w.heap.size) w code (.slice po code.length c)) : FnsAt (fun q => q < w.heap.size) w [fOf s 0 code] (.slice (some ⟨g, 0, none⟩) 1 1) := by
  refine ⟨_, 1, rfl, by simp, by simp, fun i f hi => ?_⟩
  obtain ⟨rfl, rfl⟩ := one_at hi
  refine ⟨g, 0, _, _, _, _, rfl, (Array.getElem?_eq_some_iff.1 hb).1, (cell_of_row w _ 0 _ _ _ hb).trans rfl, (cell_of_row w _ 1 _ _ _ hb).trans rfl, (cell_of_row w _ 2 _ _ _ hb).trans rfl, (cell_of_row w _ 3 _ _ _ hb).trans rfl, _, rfl, ?_, ?_, ?_, hc⟩
  · exact ⟨by simp only [fOf]; decide, by simp only [fOf]; decide⟩
  · unfold isI64; simp only [fOf]; omega
  · unfold maxLen; simp only [fOf]; decide
theorem lits_nil {w : World} {F : Nat → Prop} {p : Tm → List Value → Prop} : ListAt F w p [] (.slice none 0 0) := ⟨none, 0, rfl, by simp, by simp, fun i t hi => by simp at hi⟩
theorem vop12 {s : Int} {code : List In4} (h : ∀ x ∈ code, x.op ≠ 12) : ∀ (i : Nat) (f : Fn4) (p : Nat) (x : In4), [fOf s 0 code][i]? = some f → f.code[p]? = some x → x.op ≠ 12 := by
  intro i f p x hi hx
  obtain ⟨rfl, rfl⟩ := one_at hi
  exact h x (List.mem_of_getElem? hx)
/-- the chain that is wanted -/
theorem wrong_any (n k : Int) (hk0 : k ≠ 0) (w : World) : Calls Tryd.prog 14 #[.int .i64 n, .int .i64 k] w fun e w' => ∃ v, e = .returned v ∧ Chain w' v [Lk.fault modS 0, Lk.fault fnS 0, Lk.fault atS n, Lk.kind k] ∧ Kp (fun _ => False) w w' := by
  obtain ⟨w1, hw1⟩ : ∃ w1, w.alloc (.cells #[.string atS, .int .i64 n, .iface 42 (.int .i64 k)] 66) = w1 := ⟨_, rfl⟩
  have hz1 : w1.heap.size = w.heap.size + 1 := by rw [← hw1]; simp
  have hk1 : Kp (fun _ => False) w w1 := by rw [← hw1]; exact (Kp.refl _ w).alloc _
  have hb1 : w1.heap[w.heap.size]? = some (.cells #[.string atS, .int .i64 n, .iface 42 (.int .i64 k)] 66 (0, 0)) := by rw [← hw1]; exact heap_alloc_new w _
  obtain ⟨w2, hw2⟩ : ∃ w2, w1.alloc (.cells #[.string fnS, .int .i64 0, .iface 64 (.pointer (some ⟨w.heap.size, 0, none⟩))] 66) = w2 := ⟨_, rfl⟩
  have hz2 : w2.heap.size = w.heap.size + 1 + 1 := by rw [← hw2]; simp [hz1]
  have hk2 : Kp (fun _ => False) w1 w2 := by rw [← hw2]; exact (Kp.refl _ w1).alloc _
  have hb2 : w2.heap[w.heap.size + 1]? = some (.cells #[.string fnS, .int .i64 0, .iface 64 (.pointer (some ⟨w.heap.size, 0, none⟩))] 66 (0, 0)) := by rw [← hw2, ← hz1]; exact heap_alloc_new w1 _
  obtain ⟨w3, hw3⟩ : ∃ w3, w2.alloc (.cells #[.string modS, .int .i64 0, .iface 64 (.pointer (some ⟨w.heap.size + 1, 0, none⟩))] 66) = w3 := ⟨_, rfl⟩
  have hk3 : Kp (fun _ => False) w2 w3 := by rw [← hw3]; exact (Kp.refl _ w2).alloc _
  have hb3 : w3.heap[w.heap.size + 1 + 1]? = some (.cells #[.string modS, .int .i64 0, .iface 64 (.pointer (some ⟨w.heap.size + 1, 0, none⟩))] 66 (0, 0)) := by rw [← hw3, ← hz2]; exact heap_alloc_new w2 _
  have hch : Chain w3 (.iface 64 (.pointer (some ⟨w.heap.size + 1 + 1, 0, none⟩))) [Lk.fault modS 0, Lk.fault fnS 0, Lk.fault atS n, Lk.kind k] :=
    .inr ⟨rfl, _, _, rfl, hb3, .inr ⟨rfl, _, _, rfl, (hk3.block _ (by omega) (fun e => e)).trans hb2, .inr ⟨rfl, _, _, rfl, ((hk2.trans' hk3).block _ (by omega) (fun e => e)).trans hb1, .inl ⟨rfl, rfl, rfl, rfl, hk0⟩⟩⟩⟩
  have H := Lib.hid (And.intro hch (hk1.trans' (hk2.trans' hk3)))
  unfold atS at hw1
  unfold fnS at hw2
  unfold modS at hw3
  clear hk1 hk2 hk3 hb1 hb2 hb3 hch
  go_enter Tryd.func14, Tryd.ntmps14
  go_wp2_with fail
  go_ret
  exact ⟨_, rfl, H.out.1, H.out.2⟩
/-- what a module's chain says -/
theorem says_chain {B : Nat} {w : World} {v : Value} {n m k : Int} (h : ChainB B w v [Lk.fault modS n, Lk.fault fnS m, Lk.fault atS k, Lk.kind 13]) :
    ∃ p, v = .iface 64 (.pointer p) ∧ Says w 64 (.pointer p) (modS ++ ⟨#[58, 32]⟩ ++ (fnS ++ ⟨#[58, 32]⟩ ++ (atS ++ ⟨#[58, 32]⟩ ++ ⟨#[106, 117, 109, 112]⟩))) 94 := by
  rcases h with ⟨h, -⟩ | ⟨-, g1, v1, -, rfl, b1, h⟩
  · cases h
  rcases h with ⟨h, -⟩ | ⟨-, g2, v2, -, rfl, b2, h⟩
  · cases h
  rcases h with ⟨h, -⟩ | ⟨-, g3, v3, -, rfl, b3, h⟩
  · cases h
  rcases h with ⟨-, rfl, -⟩ | ⟨h, -⟩
  · have s3 := says_fault atS k g3 w (says_jump w) (by decide) (by decide) b3
    have s2 := says_fault fnS m g2 w s3 (by decide) (by decide) b2
    exact ⟨_, rfl, says_fault modS n g1 w s2 (by decide) (by decide) b1⟩
  · exact absurd h (by decide)
/-- a row of instructions that was made at once -/
theorem code_new {w : World} {g : Nat} {code : List In4} {cs : Array Value} (hb : w.heap[g]? = some (.cells cs 29 (0, 0))) (he : cs = (vinsCells code).toArray) (hl : code.length ≤ 100000) (hw : ∀ x ∈ code, x.wf) :
    CodeAt (fun q => q < w.heap.size) w code (.slice (some ⟨g, 0, none⟩) code.length code.length) := by
  subst he
  have ho : w.ownsRow 0 29 4 (.slice (some ⟨g, 0, none⟩) code.length code.length) code.length (vinsCells code) := by
    refine ⟨by rw [vinsCells_len], .inr ⟨g, _, _, rfl, Nat.zero_le _, hb, Nat.le_refl _, by unfold maxLen; omega, by simp [vinsCells_len], ?_⟩⟩
    rw [← vinsCells_len]
    exact List.take_length
  exact (vinsCells_at ho (by omega) hw).imp (fun q e => e.2) (fun _ _ _ _ e => e)
theorem says_text : modS ++ ⟨#[58, 32]⟩ ++ (fnS ++ ⟨#[58, 32]⟩ ++ (atS ++ ⟨#[58, 32]⟩ ++ ⟨#[106, 117, 109, 112]⟩)) = ⟨#[109, 111, 100, 117, 108, 101, 58, 32, 102, 117, 110, 99, 116, 105, 111, 110, 58, 32, 97, 116, 58, 32, 106, 117, 109, 112]⟩ := by kernel_rfl
theorem vm_fault (p : Option Addr) (w : World) : (Go.method 301 64 (.pointer p) "Error").run Tryd.prog w = .ok (94, .pointer p) w := by kernel_rfl
attribute [local go_sem] vm_fault
set_option maxRecDepth 100000 in
set_option maxHeartbeats 4000000 in
theorem vawake_any (w : World) (hg : Laid0 w) : Calls Tryd.prog 12 #[] w fun e w' => e = .returned (.bool true) ∧ Kp (fun _ => False) w w' := by
  obtain ⟨w1, hw1⟩ : ∃ w1, w.alloc (.cells #[.int .i64 4, .int .i64 5, .int .i64 0, .int .i64 0] 29) = w1 := ⟨_, rfl⟩
  have hk1 : Kp (fun _ => False) w w1 := by rw [← hw1]; exact (Kp.refl _ w).alloc _
  have hb1 : w1.heap[w.heap.size]? = some (.cells #[.int .i64 4, .int .i64 5, .int .i64 0, .int .i64 0] 29 (0, 0)) := by rw [← hw1]; exact heap_alloc_new w _
  have hc1 := code_new (code := [⟨4, 5, 0, 0⟩]) hb1 rfl (by simp) (by intro x hx; rw [List.mem_singleton] at hx; subst hx; exact ⟨⟨by decide, by decide⟩, ⟨by decide, by decide⟩, ⟨by decide, by decide⟩, ⟨by decide, by decide⟩⟩)
  have H1 := Lib.hid (And.intro hk1 (And.intro hc1 hg))
  clear hk1 hb1 hc1 hg
  go_enter Tryd.func12, Tryd.ntmps12
  go_wp2_with fail
  refine (one_any _ rfl _).mono ?_
  rintro e w2 ⟨g, rfl, hb2, hlo, hk2⟩
  have hz2 := hk2.size
  have hfs := fns_one (s := 0) (code := [⟨4, 5, 0, 0⟩]) hb2 (by omega) (H1.out.2.1.imp (fun q e => Nat.lt_of_lt_of_le e hz2) (fun _ _ _ _ e => keeps_cell hk2 e))
  have hg2 := laid0_kp H1.out.2.2 (H1.out.1.trans' hk2)
  have HM := Lib.hid (module_wrong (whole_md (hh := 0) lits_nil hfs (by simp) (by simp) (by simp) (by simp) (vop12 (by simp)) hg2) (fun h => jump_bad.1 (h 0 _ rfl)) (fun i f ls => one_wrong (head_f 0 0 _ [] (by omega) (by omega) (by simp)) jump_bad.2 i f ls))
  have H2 := Lib.hid (H1.out.1.trans' hk2)
  clear hk2 hb2 hfs hg2 hlo hz2
  go_wp2_with fail
  refine HM.out.mono ?_
  rintro e w3 ⟨v3, rfl, hch3, hk3⟩
  obtain ⟨p3, rfl, hs3⟩ := says_chain hch3
  have H3 := Lib.hid (And.intro hs3 (H2.out.trans' hk3))
  clear hch3 hk3 hs3
  obtain ⟨w4, hw4⟩ : ∃ w4, w3.alloc (.cells #[.int .i64 15, .int .i64 0, .int .i64 0, .int .i64 0] 29) = w4 := ⟨_, rfl⟩
  have hk4 : Kp (fun _ => False) w3 w4 := by rw [← hw4]; exact (Kp.refl _ w3).alloc _
  have hb4 : w4.heap[w3.heap.size]? = some (.cells #[.int .i64 15, .int .i64 0, .int .i64 0, .int .i64 0] 29 (0, 0)) := by rw [← hw4]; exact heap_alloc_new w3 _
  have hc4 := code_new (code := [⟨15, 0, 0, 0⟩]) hb4 rfl (by simp) (by intro x hx; rw [List.mem_singleton] at hx; subst hx; exact ⟨⟨by decide, by decide⟩, ⟨by decide, by decide⟩, ⟨by decide, by decide⟩, ⟨by decide, by decide⟩⟩)
  have H4 := Lib.hid (And.intro hk4 hc4)
  clear hk4 hb4 hc4
  simp only [id]
  go_wp2_with fail
  refine (one_any _ rfl _).mono ?_
  rintro e w5 ⟨g5, rfl, hb5, hlo, hk5⟩
  have hz5 := hk5.size
  have hfs := fns_one (s := 0) (code := [⟨15, 0, 0, 0⟩]) hb5 (by omega) (H4.out.2.imp (fun q e => Nat.lt_of_lt_of_le e hz5) (fun _ _ _ _ e => keeps_cell hk5 e))
  have hk35 := H4.out.1.trans' hk5
  have hg5 := laid0_kp H1.out.2.2 (H3.out.2.trans' hk35)
  have HM2 := Lib.hid (module_nil (whole_md (hh := 0) lits_nil hfs (by simp) (by simp) (by simp) (by simp) (vop12 (by simp)) hg5) (fun i f ls => one_right (head_f 0 0 _ [] (by omega) (by omega) (by simp)) (fun p k h => ret_right h) i f ls))
  have H5 := Lib.hid hk35
  clear hk5 hb5 hfs hg5 hlo hz5 hk35
  go_wp2_with fail
  refine HM2.out.mono ?_
  rintro e w6 ⟨rfl, hk6⟩
  have hk36 := H5.out.trans' hk6
  have HE := Lib.hid (H3.out.1.2 w6 hk36)
  have H6 := Lib.hid (H3.out.2.trans' hk36)
  clear hk6 hk36
  go_wp2_with fail
  refine HE.out.mono ?_
  rintro e w7 ⟨rfl, hk7⟩
  rw [says_text]
  have H7 := Lib.hid (H6.out.trans' hk7)
  clear hk7
  go_wp2_with fail
  go_ret
  exact ⟨rfl, H7.out⟩
end Go.Proofs.YtpbapiphafnipaaDoor

/- Tries in one another, as many ends. -/
namespace Go.Proofs.YtpbapiphafnipaaDoor
open Go.RowKit

set_option maxRecDepth 100000 in
set_option maxHeartbeats 4000000 in
/-- Module of one that is wrong somehow -/
theorem module_some {c0 c1 c2 : Value} {w : World} (h : ∀ w1, Kp (fun _ => False) w w1 → Calls Tryd.prog 22 #[.agg #[c0, c1, c2]] w1 fun e w' => ∃ (a : Lk) (l : List Lk), EBad w1 id (a :: l) e w') :
    Calls Tryd.prog 11 #[.agg #[c0, c1, c2]] w fun e w' => ∃ (t : TypeId) (x : Value), e = .returned (.iface t x) ∧ Kp (fun _ => False) w w' := by
  obtain ⟨w1, hw1⟩ : ∃ w1, w.alloc (.cells #[c0, c1, c2] 26) = w1 := ⟨_, rfl⟩
  have hk1 : Kp (fun _ => False) w w1 := by rw [← hw1]; exact (Kp.refl _ w).alloc _
  have hb : w1.heap[w.heap.size]? = some (.cells #[c0, c1, c2] 26 (0, 0)) := by rw [← hw1]; exact heap_alloc_new w _
  have y0 : w1.cell? ⟨w.heap.size, 0, none⟩ = some c0 := by rw [cell_of_row w1 _ 0 _ _ _ hb]; rfl
  have y1 : w1.cell? ⟨w.heap.size, 1, none⟩ = some c1 := by rw [cell_of_row w1 _ 1 _ _ _ hb]; rfl
  have y2 : w1.cell? ⟨w.heap.size, 2, none⟩ = some c2 := by rw [cell_of_row w1 _ 2 _ _ _ hb]; rfl
  have H := Lib.hid (And.intro (h w1 hk1) hk1)
  clear hb hk1 h
  go_enter Tryd.func11, Tryd.ntmps11
  go_wp2_with fail
  refine H.out.1.mono ?_
  rintro e w2 ⟨a, l, v, rfl, hch, hk2⟩
  have H2 := Lib.hid (And.intro hch (And.intro (H.out.2.trans' hk2) (Nat.le_trans H.out.2.size (Nat.le_refl _))))
  have hz : w1.heap.size ≤ w2.heap.size := hk2.size
  clear hch hk2
  go_wp2_with fail
  refine (at_chain _ _ H2.out.1 hz).mono ?_
  rintro e w3 ⟨v', rfl, hch, hk3⟩
  have H3 := Lib.hid (And.intro hch hk3)
  clear hch hk3
  go_wp2_with fail
  go_ret
  obtain ⟨t, x, hv⟩ : ∃ t x, v' = .iface t x := by
    rcases id H3.out.1 with h | ⟨h0, g, inner, hg, h1, h2, h3⟩
    · exact ⟨_, _, h.2.1⟩
    · exact ⟨_, _, h1⟩
  exact ⟨t, x, by rw [hv]; rfl, H2.out.2.1.trans' H3.out.2⟩
/-- a place below -/
theorem vplace (w : World) (v : Int) (n : Nat) (h1 : -9223372036854775808 ≤ v) (h2 : v ≤ 9223372036854775807) (hn : 0 < n) (hn2 : n ≤ 1000) :
    Calls Tryd.prog 9 #[.int .i64 v, .int .i64 (n : Nat)] w fun e w' => ∃ k : Nat, e = .returned (.int .i64 k) ∧ k < n ∧ w = w' := by
  refine (place_any w v n h1 h2 (by omega) (by omega)).mono ?_
  rintro e w' ⟨rfl, rfl⟩
  have := Int.emod_nonneg v (b := n) (by omega)
  have := Int.emod_lt_of_pos v (b := n) (by omega)
  exact ⟨(v % n).toNat, by rw [Int.toNat_of_nonneg (by omega)], by omega, rfl⟩
theorem wf4 {op a b c : Int} (h : 0 ≤ op ∧ op ≤ 1000) (ha : isI64 a) (hb : isI64 b) (hc : isI64 c) : In4.wf ⟨op, a, b, c⟩ := ⟨⟨by simp only; omega, by simp only; omega⟩, ha, hb, hc⟩
/-- a row of instructions that is under way -/
def CRow (w wr : World) (po : Option Addr) (n c : Nat) (code : List In4) : Prop := n = code.length ∧ wr.ownsRow w.heap.size 29 4 (.slice po n c) n (vinsCells code) ∧ Kp (fun _ => False) w wr
theorem crow_nil (w : World) : CRow w w none 0 0 [] := ⟨rfl, World.ownsRow_nil _ _ _ _, Kp.refl _ w⟩
theorem crow_push {w wr : World} {po : Option Addr} {n c : Nat} {code : List In4} (h : CRow w wr po n c code) (hl : code.length ≤ 1000) (op a b d : Int) :
    ∃ p2 n2 c2 w2, (Builtin.append_ #[30, 30] 30 #[.slice po n c, .slice (some ⟨wr.heap.size, 0, none⟩) 1 1]).run Tryd.prog (wr.alloc (.cells #[.int .i64 op, .int .i64 a, .int .i64 b, .int .i64 d] 29)) = .ok (.slice p2 n2 c2) w2 ∧ CRow w w2 p2 n2 c2 (code ++ [⟨op, a, b, d⟩]) := by
  obtain ⟨rfl, ho, hk⟩ := h
  obtain ⟨g, cap, w2, h1, h2, h3, -⟩ := vins_row ho hk.size (by omega) ⟨op, a, b, d⟩
  refine ⟨_, _, _, w2, h1, by simp, h2, kp_fresh hk (h3.mono fun q _ e => .inr ?_)⟩
  exact (ho.lt q e).1
theorem crow_code {w wr : World} {po : Option Addr} {n c : Nat} {code : List In4} (h : CRow w wr po n c code) (hl : code.length ≤ 1000) (hw : ∀ x ∈ code, x.wf) : CodeAt (fun q => q < wr.heap.size) wr code (.slice po code.length c) := by
  obtain ⟨rfl, ho, hk⟩ := h
  exact (vinsCells_at ho (by omega) hw).imp (fun q e => e.2) (fun _ _ _ _ e => e)
theorem vrep_snoc (x : In4) (k : Nat) : List.replicate (k + 1) x = List.replicate k x ++ [x] := List.replicate_succ'
theorem vrange_snoc (g : Nat → In4) (i : Nat) : (List.range (i + 1)).map g = (List.range i).map g ++ [g i] := by rw [List.range_succ, List.map_append]; rfl
set_option maxRecDepth 100000 in
set_option maxHeartbeats 4000000 in
theorem nests_walk (a0 a1 : Int) (w : World) (b1 : -9223372036854775808 ≤ a0) (b2 : a0 ≤ 9223372036854775807) (b3 : -9223372036854775808 ≤ a1) (b4 : a1 ≤ 9223372036854775807) (hg : Laid0 w) :
    Calls Tryd.prog 6 #[.int .i64 a0, .int .i64 a1] w fun e w' => e = .returned (.bool true) ∧ Kp (fun _ => False) w w' := by
  have HG := Lib.hid hg
  have HI := Lib.hid (And.intro b1 (And.intro b2 (And.intro b3 b4)))
  clear hg b1 b2 b3 b4
  go_enter Tryd.func6, Tryd.ntmps6
  go_wp2_with fail
  refine Calls.mono (vplace _ a0 11 HI.out.1 HI.out.2.1 (by omega) (by omega)) ?_
  rintro e w' ⟨n, rfl, hn, rfl⟩
  go_wp2_with fail
  refine Calls.mono (vplace _ a1 11 HI.out.2.2.1 HI.out.2.2.2 (by omega) (by omega)) ?_
  rintro e w' ⟨k, rfl, hk, rfl⟩
  go_wp2_with fail
  go_loopg [7, 8] n (fun gk vv ii wr => ∃ (i : Nat) (po : Option Addr) (m c : Nat), i ≤ n ∧ gk = n - i ∧ ii = .int .i64 i ∧ vv = .slice po m c ∧ CRow w wr po m c ((List.range i).map fun j : Nat => (⟨24, ((n + k + 1 + j : Nat) : Int), 0, 0⟩ : In4)))
  case atStart => exact ⟨0, none, 0, 0, by omega, rfl, rfl, rfl, crow_nil w⟩
  case round =>
    obtain ⟨i, po, m, c, hi, rfl, rfl, rfl, hr⟩ := hrel
    by_cases hlt : i < n
    · have hlti : (i : Int) < n := by omega
      obtain ⟨p2, n2, c2, w2, hr2, hc2⟩ := crow_push hr (by simp; omega) 24 ((n + k + 1 + i : Nat) : Int) 0 0
      have hcast : ((n + k + 1 + i : Nat) : Int) = (n : Int) + k + 1 + i := by omega
      rw [hcast] at hr2
      have H2 := Lib.hid (And.intro hr2 hc2)
      clear hr2 hc2 hr
      go_wp2_with (at_builtin; refine wpList_run rfl (.tmp 21) (.tmp 29) 30 rfl (.slice po m c) (.slice (some ⟨wr.heap.size, 0, none⟩) 1 1) rfl rfl _ w2 H2.out.1 ?_)
      go_roundg (n - (i + 1))
      case measure => omega
      case rel => exact ⟨i + 1, _, _, _, by omega, rfl, by go_num, rfl, by rw [vrange_snoc]; exact H2.out.2⟩
    · obtain rfl : i = n := by omega
      have hlti : ¬ (i : Int) < i := by omega
      have HR := Lib.hid hr
      clear hr
      go_wp2_with fail
      go_loopg [7, 9] k (fun gk vv ii wr => ∃ (j : Nat) (po : Option Addr) (m c : Nat), j ≤ k ∧ gk = k - j ∧ ii = .int .i64 j ∧ vv = .slice po m c ∧ CRow w wr po m c ((List.range i).map (fun j : Nat => (⟨24, ((i + k + 1 + j : Nat) : Int), 0, 0⟩ : In4)) ++ List.replicate j ⟨25, 0, 0, 0⟩))
      case atStart => exact ⟨0, _, _, _, by omega, rfl, rfl, rfl, by simpa using HR.out⟩
      case round =>
        obtain ⟨j, po, m, c, hj, rfl, rfl, rfl, hr⟩ := hrel
        by_cases hlt : j < k
        · have hltj : (j : Int) < k := by omega
          obtain ⟨p2, n2, c2, w2, hr2, hc2⟩ := crow_push hr (by simp; omega) 25 0 0 0
          have H2 := Lib.hid (And.intro hr2 hc2)
          clear hr2 hc2 hr
          go_wp2_with (at_builtin; refine wpList_run rfl (.tmp 36) (.tmp 38) 30 rfl (.slice po m c) (.slice (some ⟨wr.heap.size, 0, none⟩) 1 1) rfl rfl _ w2 H2.out.1 ?_)
          go_roundg (k - (j + 1))
          case measure => omega
          case rel => exact ⟨j + 1, _, _, _, by omega, rfl, by go_num, rfl, by rw [vrep_snoc, ← List.append_assoc]; exact H2.out.2⟩
        · obtain rfl : j = k := by omega
          have hltj : ¬ (j : Int) < j := by omega
          obtain ⟨p2, n2, c2, w2, hr2, hc2⟩ := crow_push hr (by simp; omega) 15 0 0 0
          have H2 := Lib.hid (And.intro hr2 hc2)
          clear hr2 hc2 hr HR
          go_wp2_with (at_builtin; refine wpList_run rfl (.tmp 40) (.tmp 42) 30 rfl (.slice po m c) (.slice (some ⟨wr.heap.size, 0, none⟩) 1 1) rfl rfl _ w2 H2.out.1 ?_)
          go_loopg [7, 10] i (fun gk vv ii wr => ∃ (q : Nat) (po : Option Addr) (m c : Nat), q ≤ i ∧ gk = i - q ∧ ii = .int .i64 q ∧ vv = .slice po m c ∧ CRow w wr po m c ((List.range i).map (fun p : Nat => (⟨24, ((i + j + 1 + p : Nat) : Int), 0, 0⟩ : In4)) ++ (List.replicate j ⟨25, 0, 0, 0⟩ ++ (⟨15, 0, 0, 0⟩ :: List.replicate q ⟨27, 0, 0, 0⟩))))
          case atStart => exact ⟨0, _, _, _, by omega, rfl, rfl, rfl, by have := H2.out.2; simpa using this⟩
          case round =>
            obtain ⟨q, po, m, c, hq, rfl, rfl, rfl, hr⟩ := hrel
            by_cases hlt : q < i
            · have hltq : (q : Int) < i := by omega
              obtain ⟨p2, n2, c2, w2, hr2, hc2⟩ := crow_push hr (by simp; omega) 27 0 0 0
              have H3 := Lib.hid (And.intro hr2 hc2)
              clear hr2 hc2 hr
              go_wp2_with (at_builtin; refine wpList_run rfl (.tmp 49) (.tmp 51) 30 rfl (.slice po m c) (.slice (some ⟨wr.heap.size, 0, none⟩) 1 1) rfl rfl _ w2 H3.out.1 ?_)
              go_roundg (i - (q + 1))
              case measure => omega
              case rel => exact ⟨q + 1, _, _, _, by omega, rfl, by go_num, rfl, by rw [vrep_snoc]; have := H3.out.2; simp only [List.append_assoc, List.cons_append] at this ⊢; exact this⟩
            · obtain rfl : q = i := by omega
              have hltq : ¬ (q : Int) < q := by omega
              have hc3 := crow_code hr (by simp; omega) (by
                intro x hx
                simp only [List.mem_append, List.mem_map, List.mem_range, List.mem_cons, List.mem_replicate] at hx
                rcases hx with ⟨p, hp, rfl⟩ | ⟨-, rfl⟩ | rfl | ⟨-, rfl⟩
                · exact wf4 (by omega) (by unfold isI64; omega) ⟨by decide, by decide⟩ ⟨by decide, by decide⟩
                all_goals exact ⟨⟨by decide, by decide⟩, ⟨by decide, by decide⟩, ⟨by decide, by decide⟩, ⟨by decide, by decide⟩⟩)
              obtain ⟨hm, -, hk3⟩ := hr
              have H3 := Lib.hid (And.intro (show CodeAt (fun q => q < wr.heap.size) wr (nestCode q j) (.slice po (nestCode q j).length c) from hc3) (And.intro hk3 (show m = (nestCode q j).length from hm)))
              clear hc3 hk3 H2 hm
              go_wp2_with fail
              refine (one_any _ rfl _).mono ?_
              rintro e w4 ⟨g, rfl, hb4, hlo, hk4⟩
              rw [H3.out.2.2] at hb4
              have hz4 := hk4.size
              have hfs := fns_one (s := 0) (code := nestCode q j) hb4 (by omega) (H3.out.1.imp (fun q e => Nat.lt_of_lt_of_le e hz4) (fun _ _ _ _ e => keeps_cell hk4 e))
              have hg4 := laid0_kp HG.out (H3.out.2.1.trans' hk4)
              have hlen : 1 ≤ (nestCode q j).length ∧ (nestCode q j).length ≤ 16384 := by rw [nest_len]; omega
              have h12 : ∀ x ∈ nestCode q j, x.op ≠ 12 := by
                intro x hx
                obtain ⟨p, hp, rfl⟩ := List.getElem_of_mem hx
                rcases nest_at (List.getElem?_eq_getElem hp) with ⟨-, e⟩ | ⟨-, -, e⟩ | ⟨-, e⟩ | ⟨-, -, e⟩ <;> rw [e] <;> simp
              have HW := Lib.hid (whole_md (hh := 0) lits_nil hfs (by simp) (by simp) (by simp) (by simp) (vop12 h12) hg4)
              have H4 := Lib.hid (And.intro (H3.out.2.1.trans' hk4) (And.intro hg4 (head_f 0 0 (nestCode q j) [] (by omega) (by omega) hlen)))
              clear hk4 hb4 hfs hg4 hlo hz4 hlen h12
              go_wp2_with fail
              by_cases hr : q = j ∧ q ≤ 8
              · obtain ⟨rfl, h8⟩ := hr
                refine (module_nil HW.out (fun i f ls => one_right H4.out.2.2 (fun p k h => nest_right h8 h) i f ls)).mono ?_
                rintro e w5 ⟨rfl, hk5⟩
                have H5 := Lib.hid (H4.out.1.trans' hk5)
                have HA := Lib.hid (vawake_any w5 (laid0_kp H4.out.2.1 hk5))
                clear hk5
                have h8i : (q : Int) ≤ 8 := by omega
                go_wp2_with fail
                refine HA.out.mono ?_
                rintro e w6 ⟨rfl, hk6⟩
                have H6 := Lib.hid (H5.out.trans' hk6)
                clear hk6
                go_wp2_with fail
                go_ret
                exact ⟨rfl, H6.out⟩
              · refine (module_some (fun w1 hk1 => (HW.out w1 hk1).mono fun e w' hp => by
                  rcases hp with ⟨-, -, hgd⟩ | ⟨i, f, ls, -, -, -, h⟩
                  · exact (hr (nest_only (hgd 0 _ rfl))).elim
                  · exact ⟨_, _, h⟩)).mono ?_
                rintro e w5 ⟨t, x, rfl, hk5⟩
                have H5 := Lib.hid (H4.out.1.trans' hk5)
                have HA := Lib.hid (vawake_any w5 (laid0_kp H4.out.2.1 hk5))
                clear hk5
                by_cases hqj : q = j
                · have h8i : ¬ (q : Int) ≤ 8 := fun e => hr ⟨hqj, by omega⟩
                  subst hqj
                  go_wp2_with fail
                  refine HA.out.mono ?_
                  rintro e w6 ⟨rfl, hk6⟩
                  have H6 := Lib.hid (H5.out.trans' hk6)
                  clear hk6
                  go_wp2_with fail
                  go_ret
                  exact ⟨congrArg (fun b => Ending.returned (.bool !b)) (decide_eq_false (show ¬ (q : Int) ≤ 8 by omega)), H6.out⟩
                · have hqi : ¬ (q : Int) = j := by omega
                  go_wp2_with fail
                  refine HA.out.mono ?_
                  rintro e w6 ⟨rfl, hk6⟩
                  have H6 := Lib.hid (H5.out.trans' hk6)
                  clear hk6
                  go_wp2_with fail
                  go_ret
                  exact ⟨rfl, H6.out⟩
end Go.Proofs.YtpbapiphafnipaaDoor
