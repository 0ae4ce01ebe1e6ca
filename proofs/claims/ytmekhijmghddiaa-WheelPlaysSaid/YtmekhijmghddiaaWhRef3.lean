/- The document's own wheel: Start. -/
import Derived.Test.YtmekhijmghddiaaWhRef2
import Derived.BigRegion
namespace Go.Proofs.Ytmekhijmghddiaa
open Go.RowKit

section
variable {v : Value} {F G H : Nat → Prop} {w w' : World} {b most now fresh : Nat} {ts : List Tm} {id : Int} {t : Tm}
theorem XBad.drew {w w1 : World} {mk : Value → Value} {l : List Lk} {e : Ending} {w' : World} (h : XBad w1 mk l e w') (hk : Kp (fun _ => False) w w1) : XBad w mk l e w' := by
  obtain ⟨v, h1, h2, h3⟩ := h
  exact ⟨v, h1, h2, hk.trans' h3⟩
set_option maxHeartbeats 1000000 in
theorem xstart_bad (w : World) (b : Nat) (n wht : Int) (h : n < 0 ∨ 1073741824 < n) :
    Calls Try.prog 15 #[.pointer (some ⟨b, 0, none⟩), .int .i64 n, .int .i64 wht] w (XBad w (fun v => .tuple #[.int .i64 (-1), v]) [Lk.fault ⟨#[115, 116, 97, 114, 116]⟩ n, Lk.kind 1]) := by
  have HB := Lib.hid (xbad1 w (fun v => .tuple #[.int .i64 (-1), v]) ⟨#[115, 116, 97, 114, 116]⟩ n 1 0)
  rcases h with h | h
  · go_enter Try.func15, Try.ntmps15
    go_wp2_with (first | (go_at_call 29; refine (k_any _ _).mono ?_; rintro e w1 ⟨rfl, rfl⟩) | (go_at_call 28; refine (f13_any _ _ _ _).mono ?_; rintro e w1 ⟨rfl, rfl⟩))
    go_ret2
    exact HB.out
  · have h2 : ¬ n < 0 := by omega
    go_enter Try.func15, Try.ntmps15
    go_wp2_with (first | (go_at_call 29; refine (k_any _ _).mono ?_; rintro e w1 ⟨rfl, rfl⟩) | (go_at_call 28; refine (f13_any _ _ _ _).mono ?_; rintro e w1 ⟨rfl, rfl⟩))
    go_ret2
    exact HB.out
set_option maxHeartbeats 1000000 in
theorem xstart_full (h : RW w G b most now fresh ts) (n wht : Int) (h0 : 0 ≤ n) (h1 : n ≤ 1073741824) (hf : ts.length = most) :
    Calls Try.prog 15 #[.pointer (some ⟨b, 0, none⟩), .int .i64 n, .int .i64 wht] w (XBad w (fun v => .tuple #[.int .i64 (-1), v]) [Lk.fault ⟨#[115, 116, 97, 114, 116]⟩ n, Lk.kind 2]) := by
  obtain ⟨v, k1, k2, -⟩ := h
  obtain ⟨c0, c1, c2, c3, cf⟩ := rw_facts k1
  obtain ⟨po, cap, rfl, hcap, hcap2⟩ := ownsS_form k2
  have n1 : ¬ n < 0 := by omega
  have n2 : ¬ 1073741824 < n := by omega
  rw [hf] at c3 hcap
  clear k1 k2 hf h0 h1 c1 c2 cf
  go_enter Try.func15, Try.ntmps15
  go_wp2_with fail
  go_quiet (fail)
  go_wp2_with (first | (go_at_call 29; refine (k_any _ _).mono ?_; rintro e w1 ⟨rfl, rfl⟩) | (go_at_call 28; refine (f13_any _ _ _ _).mono ?_; rintro e w1 ⟨rfl, rfl⟩))
  go_ret2
  exact (xbad1 (w.drewN _) (fun v => .tuple #[.int .i64 (-1), v]) ⟨#[115, 116, 97, 114, 116]⟩ n 2 0).drew (kp_drewN (Kp.refl _ w) _)

theorem Try.infoQT : (Try.prog.info? 46).map (fun i => (i.zero, i.size, i.bytes)) = some (some (.agg #[.int .i64 0, .int .i64 0, .int .i64 0]), 3, 24) := by kernel_rfl
def RGo (G : Nat → Prop) (w : World) (b most now fresh : Nat) (ts : List Tm) (w' : World) : Prop :=
  ∃ G', RW w' G' b most now fresh ts ∧ (∀ q, G' q → G q ∨ w.heap.size ≤ q) ∧ Kp G w w'
theorem rgo_of {w2 w3 : World} {v' : Value} {now' fresh' : Nat} {ts' : List Tm} (hk : Kp (fun q => v.ownBlock = some q) w w2) (k3 : G b) (k4 : ∀ g, v.ownBlock = some g → G g) (k5 : ∀ q, G q → q < w.heap.size)
    (ho : w2.ownsS 46 3 v' ts'.length (qcells ts')) (hat : ∀ g, v'.ownBlock = some g → v.ownBlock = some g ∨ w.heap.size ≤ g)
    (hb3 : w3.heap[b]? = some (.cells #[.int .i64 (most : Nat), .int .i64 (now' : Nat), .int .i64 (fresh' : Nat), v'] 51 (0, 0))) (hk3 : Kp (fun q => q = b) w2 w3) (hvb : v'.ownBlock ≠ some b) : RGo G w b most now' fresh' ts' w3 := by
  have hz := hk.size
  have hz3 := hk3.size
  refine ⟨fun q => G q ∨ (w.heap.size ≤ q ∧ q < w3.heap.size), ⟨v', hb3, hk3.rowS ho (fun g hg e => hvb (e ▸ hg)), .inl k3, fun g hg => ?_, fun q hq => ?_⟩, fun q hq => hq.imp id (fun e => e.1), (hk.mono fun q _ e => k4 q e).trans' (hk3.mono fun q _ e => e ▸ k3)⟩
  · rcases hat g hg with e | e
    · exact .inl (k4 g e)
    · exact .inr ⟨e, by have := ownsS_lt ho g hg; omega⟩
  · rcases hq with e | e
    · have := k5 q e; omega
    · exact e.2
/-- several more -/
theorem q_app (ho : w.ownsS 46 3 v ts.length (qcells ts)) (po : Option Addr) (c : Nat) (us : List Tm) (hsrc : 0 < us.length → ∃ ad, po = some ad ∧ ∀ j u, (qcells us)[j]? = some u → w.cell? (ad.add j) = some u) (hlen : ts.length + us.length ≤ 100000) :
    ∃ v' w', (Builtin.append_ #[49, 49] 49 #[v, .slice po us.length c]).run Try.prog w = .ok v' w' ∧ w'.ownsS 46 3 v' (ts ++ us).length (qcells (ts ++ us)) ∧ Kp (fun q => v.ownBlock = some q) w w' ∧ ∀ g, v'.ownBlock = some g → v.ownBlock = some g ∨ w.heap.size ≤ g := by
  obtain ⟨i0, hi, hz0, hz1, hz2⟩ := info_parts Try.infoQT
  obtain ⟨v', w', e1, e2, e3, e4⟩ := run_append_s (P := Try.prog) w 49 49 46 i0 _ 3 24 Try.underlying49 hi hz0 hz1 hz2 rfl v ts.length (qcells ts) ho po us.length c (qcells us) (qcells_len us) hsrc (qcells_one us) (by unfold maxLen; omega) (by omega)
  refine ⟨v', w', e1, ?_, ((Kp.refl (fun q => v.ownBlock = some q) w).grown e3 (fun q hq => .inl hq)), e4⟩
  rw [List.length_append, qcells_app]
  exact e2
/-- one more -/
theorem q_push (ho : w.ownsS 46 3 v ts.length (qcells ts)) (t : Tm) {g : Nat} (hg : w.heap[g]? = some (.cells #[.int .i64 (t.id : Nat), .int .i64 (t.due : Nat), .int .i64 t.wht] 46 (0, 0))) (hlen : ts.length + 1 ≤ 100000) :
    ∃ v' w', (Builtin.append_ #[49, 49] 49 #[v, .slice (some ⟨g, 0, none⟩) 1 1]).run Try.prog w = .ok v' w' ∧ w'.ownsS 46 3 v' (ts ++ [t]).length (qcells (ts ++ [t])) ∧ Kp (fun q => v.ownBlock = some q) w w' ∧ ∀ g, v'.ownBlock = some g → v.ownBlock = some g ∨ w.heap.size ≤ g := by
  refine q_app ho (some ⟨g, 0, none⟩) 1 [t] (fun _ => ⟨⟨g, 0, none⟩, rfl, fun j u hj => ?_⟩) hlen
  have hadd : (⟨g, 0, none⟩ : Addr).add j = ⟨g, j, none⟩ := by rw [Go.WideShapes.add_plain, Nat.zero_add]
  rw [hadd, cell_of_row w g j _ _ _ hg, ← hj]
  simp [qcells]
set_option maxRecDepth 100000 in
set_option maxHeartbeats 2000000 in
theorem xstart_ok (h : RW w G b most now fresh ts) (n : Nat) (wht : Int) (hn : n ≤ 1073741824) (hnow : now + 1073741824 ≤ 2305843009213693952) (hfr : fresh + 1 ≤ 4611686018427387904) (hf : ts.length < most) (hm : most ≤ 4096) (t : Tm) (ht : t.id = fresh ∧ t.due = now + n ∧ t.wht = wht) :
    Calls Try.prog 15 #[.pointer (some ⟨b, 0, none⟩), .int .i64 (n : Nat), .int .i64 wht] w (fun e w' => e = .returned (.tuple #[.int .i64 (fresh : Nat), .pointer none]) ∧ RGo G w b most now (fresh + 1) (ts ++ [t]) w') := by
  obtain ⟨v, k1, k2, k3, k4, k5⟩ := h
  obtain ⟨c0, c1, c2, c3, cf⟩ := rw_facts k1
  obtain ⟨po, cap, rfl, hcap, hcap2⟩ := ownsS_form k2
  have hne := rw_ne k1 k2
  have H := Lib.hid (And.intro k1 (And.intro k2 (And.intro k3 (And.intro k4 k5))))
  obtain ⟨I, hI⟩ : ∃ I : Int, (n : Int) = I := ⟨_, rfl⟩
  have n1 : ¬ I < 0 := by omega
  have n2 : ¬ 1073741824 < I := by omega
  have HI := Lib.hid hI
  rw [hI]
  have hlm : ¬ most ≤ ts.length := by omega
  have n0 : 0 ≤ I := by omega
  have hnb : (now : Int) + I ≤ 2305843009213693952 := by omega
  have hfb : (fresh : Int) ≤ 4611686018427387903 := by omega
  obtain ⟨NL, hNL⟩ : ∃ m, ts.length = m := ⟨_, rfl⟩
  have HL := Lib.hid (And.intro hm (And.intro hf hNL))
  rw [hNL] at c3 hcap hlm
  clear k1 k2 k3 k4 k5 hn hnow hfr hf hm hNL hI hne
  go_enter Try.func15, Try.ntmps15
  go_wp2_with fail
  go_quiet (fail)
  go_wp2_with fail
  obtain ⟨wq, hwq⟩ : ∃ wq, w.drewN nq = wq := ⟨_, rfl⟩
  have hkq : Kp (fun _ => False) w wq := by rw [← hwq]; exact kp_drewN (Kp.refl _ w) nq
  have hzq : wq.heap.size = w.heap.size := by rw [← hwq]; rfl
  have hkA : Kp (fun _ => False) w (wq.alloc (.cells #[.int .i64 (fresh : Nat), .int .i64 (IntKind.i64.wrap ((now : Int) + I)), .int .i64 wht] 46)).drew := (hkq.alloc _).drew
  obtain ⟨k1, k2, k3, k4, k5⟩ := H.out
  obtain ⟨d0, d1, d2, d3, df⟩ := rw_facts ((hkq.block b (k5 b k3) (fun e => e)).trans k1)
  have hbA := (hkA.block b (k5 b k3) (fun e => e)).trans k1
  obtain ⟨a0, a1, a2, a3, af⟩ := rw_facts hbA
  have hne := rw_ne k1 k2
  have hgA : (wq.alloc (.cells #[.int .i64 (fresh : Nat), .int .i64 (IntKind.i64.wrap ((now : Int) + I)), .int .i64 wht] 46)).drew.heap[wq.heap.size]? = some (.cells #[.int .i64 (fresh : Nat), .int .i64 (IntKind.i64.wrap ((now : Int) + I)), .int .i64 wht] 46 (0, 0)) := heap_alloc_new wq _
  have htc : (Value.int .i64 (fresh : Nat) = .int .i64 (t.id : Nat)) ∧ (Value.int .i64 (IntKind.i64.wrap ((now : Int) + I)) = .int .i64 (t.due : Nat)) ∧ (Value.int .i64 wht = .int .i64 t.wht) := by
    obtain ⟨e1, e2, e3⟩ := ht
    rw [e1, e2, e3, ← HI.out]
    exact ⟨rfl, by rw [Int.natCast_add, IntWalk.i64_in _ (by rw [← HI.out] at hnb; omega)], rfl⟩
  obtain ⟨v', w2, hr, ho2, hk2, hat⟩ := q_push (hkA.rowS k2 (fun _ _ e => e)) t (g := wq.heap.size) (by rw [hgA, htc.1, htc.2.1, htc.2.2]) (by have := HL.out; omega)
  have hk2b := (hk2.block b (by have := hkA.size; have := k5 b k3; omega) (fun e => hne e)).trans hbA
  obtain ⟨b0, b1, b2, b3, bf⟩ := rw_facts hk2b
  obtain ⟨po2, cap2, rfl, hcap3, hcap4⟩ := ownsS_form ho2
  obtain ⟨N2, hN2⟩ : ∃ N2, (ts ++ [t]).length = N2 := ⟨_, rfl⟩
  rw [hN2] at hr hcap3
  have hb4 : ((w2.setCell ⟨b, 3, none⟩ (.slice po2 N2 cap2)).setCell ⟨b, 2, none⟩ (.int .i64 ((fresh : Int) + 1))).heap[b]? = some (.cells #[.int .i64 (most : Nat), .int .i64 (now : Nat), .int .i64 ((fresh + 1 : Nat) : Int), .slice po2 N2 cap2] 51 (0, 0)) := heap_setq (heap_setq hk2b _) _
  have hk4 : Kp (fun q => q = b) w2 ((w2.setCell ⟨b, 3, none⟩ (.slice po2 N2 cap2)).setCell ⟨b, 2, none⟩ (.int .i64 ((fresh : Int) + 1))) := ((Kp.refl (fun q => q = b) w2).setCell _ _ (.inl rfl)).setCell _ _ (.inl rfl)
  have hv2 := rw_ne hk2b ho2
  rw [hN2] at hv2
  have ho2' := ho2
  rw [hN2] at ho2'
  have hG : RGo G w b most now (fresh + 1) (ts ++ [t]) ((w2.setCell ⟨b, 3, none⟩ (.slice po2 N2 cap2)).setCell ⟨b, 2, none⟩ (.int .i64 ((fresh : Int) + 1))) := by
    refine rgo_of ((hkA.mono fun _ _ e => e.elim).trans' hk2) k3 k4 k5 (v' := .slice po2 N2 cap2) (by rw [hN2]; exact ho2') (fun g hg => (hat g (by rw [hN2]; exact hg)).imp id (fun e => ?_)) hb4 hk4 ?_
    · have := hkA.size; omega
    · exact hv2
  have HG := Lib.hid hG
  clear hG hb4 hk4 hv2 ho2'
  have HE := Lib.hid (show _ ∧ _ ∧ _ ∧ _ ∧ _ ∧ _ ∧ _ ∧ _ ∧ _ from ⟨ho2, hk2, hat, hk2b, hkA, hzq, hne, hN2, H.out⟩)
  have HT := Lib.hid ht
  rw [HL.out.2.2] at a3 b3 d3
  rw [HL.out.2.2] at hr
  have HR := Lib.hid hr
  clear hr ho2 hk2 hat hk2b hkA hzq hne htc hgA hbA hN2 k1 k2 k3 k4 k5 ht c0 c1 c2 c3 cf
  try rw [hwq]
  clear hkq hwq
  go_region_law (refine step_run (by rfl) (.tmp 34) (.tmp 47) 49 (by rfl) (.slice po NL cap) (.slice (some ⟨wq.heap.size, 0, none⟩) 1 1) (by first | (simp [Act.eval]; done) | simp [Act.eval, Act.put]) (by first | (simp [Act.eval]; done) | simp [Act.eval, Act.put]) _ _ HR.out ?_)
  all_goals go_wp2_with fail
  all_goals go_ret2
  all_goals exact ⟨rfl, HG.out⟩
end
end Go.Proofs.Ytmekhijmghddiaa
