/- The document's own heap of binaries: Put where there is room. (Made by gen_xput2.py.) -/
import Derived.Test.YtlnckpjpoaokjaaRefPut
import Derived.Deep.DeepCutAuto
namespace Go.Proofs.Ytlnckpjpoaokjaa
open Go.RowKit
set_option linter.unusedSimpArgs false
theorem ret2p {a b : Int} (h : a = b) : Ending.returned (.tuple #[.int .i64 a, .pointer none]) = .returned (.tuple #[.int .i64 b, .pointer none]) := by rw [h]
section
variable {F : Nat → Prop} {w w3 : World} {b : Nat} {a : Bn} {ss fs : Value} {ps : List (Value × Value × Value)} {N : Nat}

set_option maxRecDepth 100000 in
set_option maxHeartbeats 4000000 in
theorem xput_first (h : XRep F w b a ss fs ps) (hI : BInv N a) {G : Nat → Prop} {l : List UInt8} {v : Value} (hv : BytesAt G w l v) (hG : ∀ q, G q → ¬ F q) (hl : a.used + l.length ≤ a.room) (hf : a.free = []) (hlt : a.slots.length < a.most) (u : Nat) :
    Calls Try.prog 13 #[.pointer (some ⟨b, 0, none⟩), v] w fun e w' => e = .returned (.tuple #[.int .i64 (a.slots.length), .pointer none]) ∧ XGo F w b { a with used := u, slots := a.slots ++ [(⟨l, 1, 0⟩ : Sl)] } w' := by
  obtain ⟨c0, c1, c2, c3, f0⟩ := h.cells
  obtain ⟨pS, capS, hS⟩ := slice_form h.rs
  have hrf := h.rf
  have i1 := hI.most
  have i2 := hI.room
  have i3 := hI.len
  have i4 := hI.le
  have husn : ∀ n, Calls Try.prog 24 #[.pointer (some ⟨b, 0, none⟩)] (w.drewN n) fun e w' => e = .returned (.int .i64 a.used) ∧ w' = w.drewN n := fun n =>
    (xused_any (h.kp (Kp.drewN' (Kp.refl (fun _ => False) w) n) (fun _ _ e => e)) hI).mono fun e w' ⟨h1, h2⟩ => ⟨h1, h2.symm⟩
  have hus : Calls Try.prog 24 #[.pointer (some ⟨b, 0, none⟩)] w fun e w' => e = .returned (.int .i64 a.used) ∧ w' = w := husn 0
  obtain ⟨pv, capv, rfl, hv2, hv3, hv4⟩ := hv
  have hvv : BytesAt G w l (.slice pv l.length capv) := ⟨pv, capv, rfl, hv2, hv3, hv4⟩
  obtain ⟨len, hlen⟩ : ∃ len, l.length = len := ⟨_, rfl⟩
  rw [hlen] at hl hv3 hvv ⊢
  rw [hS] at c2
  obtain ⟨L, hL⟩ : ∃ L, a.slots.length = L := ⟨_, rfl⟩
  obtain ⟨M, hM⟩ : ∃ M, a.most = M := ⟨_, rfl⟩
  obtain ⟨R, hR⟩ : ∃ R, a.room = R := ⟨_, rfl⟩
  obtain ⟨U, hU⟩ : ∃ U, a.used = U := ⟨_, rfl⟩
  rw [hU] at hus husn hl i4
  rw [hR] at c1 i2 hl i4
  rw [hM] at c0 i1 i3
  rw [hL] at c2 i3
  have Hus := Lib.hid (And.intro hus (And.intro husn (And.intro hvv (And.intro h (And.intro hL hlen)))))
  have g3 : IntKind.i64.wrap ((U : Int) + len) = (U : Int) + len := IntWalk.i64_in _ (by omega)
  have k5 : decide ((R : Int) < (U : Int) + len) = false := by simp; omega
  have k6 : decide (R < U + len) = false := by simp; omega

  obtain ⟨pF, capF, hF⟩ := slice_form hrf
  rw [hf] at hF
  rw [hF] at c3
  have k7 : (((0 : Nat) : Int) == 0) = true := rfl
  have k4 : decide (M ≤ L) = false := by simp; omega
  have HFs := Lib.hid hF
  have HSs := Lib.hid hS
  clear h hrf hS hF hus husn hvv hv2 hv4 hl hI hU hM hR hL hlen i4 i2
  go_enter Try.func13, Try.ntmps13
  go_wp2_with fail
  go_quiet ((go_at_call 24; first | exact Calls.quiet_of_same Hus.out.1 | exact Calls.quiet_of_same (Hus.out.2.1 _)))
  obtain ⟨w0, hw0⟩ : ∃ w0, w.drewN nq = w0 := ⟨_, rfl⟩
  rw [hw0]
  have hk0 : Kp (fun _ => False) w w0 := by rw [← hw0]; exact Kp.drewN' (Kp.refl _ w) nq
  have hB0 := Hus.out.2.2.2.1.kp hk0 (fun _ _ e => e)
  obtain ⟨_, _, z2, z3, zf⟩ := hB0.cells
  rw [HFs.out] at z3
  have hrow := hB0.rs
  have hbS : ¬ ss.ownBlock = some b := fun e => hB0.neS e rfl
  rw [HSs.out, Hus.out.2.2.2.2.1] at hrow z2 hbS
  have hoA : ∀ o, (w0.alloc o).ownsRow 0 103 3 (.slice pS L capS) L (t3 ps) := fun o => hrow.alloc o
  have hnA : ∀ i u, [Value.int .i64 0, .int .i64 0, .slice none 0 0][i]? = some u → (w0.alloc (.cells #[Value.int .i64 0, .int .i64 0, .slice none 0 0] 103)).cell? ((⟨w0.heap.size, 0, none⟩ : Addr).add i) = some u :=
    World.news_of_block (cs := #[Value.int .i64 0, .int .i64 0, .slice none 0 0]) (heap_alloc_new w0 _)
  have hone : ∀ u ∈ [Value.int .i64 0, .int .i64 0, .slice none 0 0], u.oneCell' = true := by intro u hu; simp at hu; rcases hu with rfl | rfl | rfl <;> rfl
  have hc1 : L + 1 ≤ maxLen := by unfold maxLen; omega
  have hc2 : (L + 1) * 40 ≤ 140737488355328 := by omega
  obtain ⟨i0, hi, hz0, hz1, hz2⟩ := info_parts Try.infoS
  have hbl : b < w0.heap.size := hB0.lt b hB0.inF
  have H0 := Lib.hid (And.intro hB0 (And.intro hk0 (And.intro hc1 (And.intro hc2 (And.intro hbS hf)))))
  clear hB0 hrow hc1 hc2 hbS hk0 hw0 hf hlt c0 c1 c2 c3 f0 k5 k6 k7 k4 g3
  go_wp2_with (at_builtin; refine wpList_append_lies _ rfl _ _ 90 rfl 0 103 i0 (.agg #[.int .i64 0, .int .i64 0, .slice none 0 0]) 3 40 Try.underlying90 hi hz0 hz1 hz2 rfl (by omega) (.slice pS L capS) L _ rfl (hoA _) ⟨w0.heap.size, 0, none⟩ 1 1 [.int .i64 0, .int .i64 0, .slice none 0 0] rfl rfl hnA hone (by omega) H0.out.2.2.1 H0.out.2.2.2.1 (Nat.zero_le _) (w0.heap.size + 1) (by simp) ?_; intro g1 cap1 wS hown hgrow hat hlt3; refine Hid.out ?_)
  have hkk : Kp (fun q => (Value.slice pS L capS).ownBlock = some q) w0 wS := ((Kp.refl _ w0).alloc _).grown hgrow (fun q hq => .inl hq)
  have s2 : wS.cell? ⟨b, 2, none⟩ = some (.slice pS L capS) := (hkk.cell (p := ⟨b, 2, none⟩) hbl H0.out.2.2.2.2.1).trans z2
  have s3 : wS.cell? ⟨b, 3, none⟩ = some (.slice pF ([] : List Nat).length capF) := (hkk.cell (p := ⟨b, 3, none⟩) hbl H0.out.2.2.2.2.1).trans z3
  have sf : ∀ j, wS.frozen? ⟨b, j, none⟩ = false := fun j => (hkk.frozen (p := ⟨b, j, none⟩) hbl H0.out.2.2.2.2.1).trans (zf j)
  have hgo := H0.out.1.push (by rw [Hus.out.2.2.2.2.1]; exact hown) (by rw [HSs.out, Hus.out.2.2.2.2.1]; exact hgrow) (by rw [HSs.out, Hus.out.2.2.2.2.1]; exact hat) hlt3
  rw [Hus.out.2.2.2.2.1] at hgo
  obtain ⟨wT, hwT⟩ : ∃ wT, wS.setCell ⟨b, 2, none⟩ (.slice (some ⟨g1, 0, none⟩) (L + 1) cap1) = wT := ⟨_, rfl⟩
  rw [hwT] at hgo
  obtain ⟨hkT, F1, hn1, ss1, fs1, ps1, hBT⟩ := hgo
  have HB := Lib.hid (And.intro hBT (And.intro ((H0.out.2.1.mono (G := F) fun _ _ e => e.elim).trans' hkT) (show ({ a with slots := a.slots ++ [(⟨[], 0, 0⟩ : Sl)] } : Bn).slots[L]? = some ⟨[], 0, 0⟩ by simp [← Hus.out.2.2.2.2.1])))
  have Hn := Lib.hid hn1
  clear hkk hown hgrow hat hlt3 hBT hkT hn1 hnA hoA hone z2 z3 zf hbl
  refine Lib.hid ?_
  go_wp2_with fail
  obtain ⟨_, _, e2, e3, e5⟩ := HB.out.1.cells
  obtain ⟨g, cap1, v0, hss1, _, hby0, d0, d1, d2, fz, _, hgb⟩ := HB.out.1.slot HB.out.2.2
  obtain ⟨p0, cc0, rfl⟩ := hby0.form' (m := _) rfl
  obtain ⟨L1, hL1, hL2⟩ : ∃ L1, ({ a with slots := a.slots ++ [(⟨[], 0, 0⟩ : Sl)] } : Bn).slots.length = L1 ∧ L < L1 := ⟨_, rfl, (List.getElem?_eq_some_iff.1 HB.out.2.2).1⟩
  rw [hss1, hL1] at e2
  obtain ⟨q, hq, hq2⟩ : ∃ q, (⟨[], 0, 0⟩ : Sl).gen = q ∧ q ≤ 1000000000000000 := ⟨_, rfl, by simp⟩
  have hgv : ((⟨[], 0, 0⟩ : Sl)).given = q := by unfold Sl.given; rw [if_pos rfl]; exact hq
  rw [hgv] at d0
  obtain ⟨pw, lw, cw, w3, hr, hby, hk3⟩ := run_bytes (w := wT.drew) (bytes_kp Hus.out.2.2.1 (G := fun q => F q) (HB.out.2.1.drew) hG)
  have hk3' : Kp (fun _ => False) wT w3 := ((Kp.refl _ wT).drew).trans' hk3
  have hB3 := HB.out.1.kp hk3' (fun _ _ e => e)
  have hB4 : XRep (fun q => F1 q ∨ Own wT.heap.size w3 q) w3 b ({ a with slots := a.slots ++ [(⟨[], 0, 0⟩ : Sl)] } : Bn) ss1 fs1 ps1 := hB3.more (fun q hq => .inl hq) (fun q hq => by
    rcases hq with hq | hq
    · exact hB3.lt q hq
    · exact hq.2)
  have hfin := xput_slots hB4 HB.out.2.2 hss1 (byt_more hby (fun q hq => .inr hq)) u
  rw [show ((⟨[], 0, 0⟩ : Sl)).gen + 1 = q + 1 by rw [← hq]] at hfin
  have hlt1 := HB.out.1.lt b HB.out.1.inF
  have hglt : g < wT.heap.size := World.block_lt_of_cell? _ _ d0
  have t2 : w3.cell? ⟨b, 2, none⟩ = some (.slice (some ⟨g, 0, none⟩) L1 cap1) := (hk3'.cell (p := ⟨b, 2, none⟩) hlt1 (fun e => e)).trans e2
  have t0 : w3.cell? ⟨g, L * 3, none⟩ = some (.int .i64 q) := (hk3'.cell (p := ⟨g, L * 3, none⟩) hglt (fun e => e)).trans d0
  have t1 : w3.cell? ⟨g, L * 3 + 1, none⟩ = some (.int .i64 ((⟨[], 0, 0⟩ : Sl)).count) := (hk3'.cell (p := ⟨g, L * 3 + 1, none⟩) hglt (fun e => e)).trans d1
  have t3 : w3.cell? ⟨g, L * 3 + 2, none⟩ = some (.slice p0 ((⟨[], 0, 0⟩ : Sl)).bs.length cc0) := (hk3'.cell (p := ⟨g, L * 3 + 2, none⟩) hglt (fun e => e)).trans d2
  have t1' : (w3.setCell ⟨g, L * 3, none⟩ (.int .i64 ((q : Int) + 1))).cell? ⟨g, L * 3 + 1, none⟩ = some (.int .i64 ((⟨[], 0, 0⟩ : Sl)).count) := by
    rw [World.cell?_setCell_other _ _ _ _ (fun e => by have e' := congrArg Addr.off e; simp only at e'; omega)]; exact t1
  have t3' : ((w3.setCell ⟨g, L * 3, none⟩ (.int .i64 ((q : Int) + 1))).setCell ⟨g, L * 3 + 1, none⟩ (.int .i64 1)).cell? ⟨g, L * 3 + 2, none⟩ = some (.slice p0 ((⟨[], 0, 0⟩ : Sl)).bs.length cc0) := by
    rw [World.cell?_setCell_other _ _ _ _ (fun e => by have e' := congrArg Addr.off e; simp only at e'; omega), World.cell?_setCell_other _ _ _ _ (fun e => by have e' := congrArg Addr.off e; simp only at e'; omega)]; exact t3
  have tz : ∀ j, w3.frozen? ⟨g, j, none⟩ = false := fun j => (hk3'.frozen (p := ⟨g, j, none⟩) hglt (fun e => e)).trans (fz j)
  have tb : ∀ j, w3.frozen? ⟨b, j, none⟩ = false := fun j => (hk3'.frozen (p := ⟨b, j, none⟩) hlt1 (fun e => e)).trans (e5 j)
  rw [show ((q + 1 : Nat) : Int) = (q : Int) + 1 by omega] at hfin
  obtain ⟨wF, hwF⟩ : ∃ wF, ((w3.setCell ⟨g, L * 3, none⟩ (.int .i64 ((q : Int) + 1))).setCell ⟨g, L * 3 + 1, none⟩ (.int .i64 1)).setCell ⟨g, L * 3 + 2, none⟩ (.slice pw lw cw) = wF := ⟨_, rfl⟩
  rw [hwF] at hfin
  have y2 : wF.cell? ⟨b, 2, none⟩ = some (.slice (some ⟨g, 0, none⟩) L1 cap1) := by
    rw [← hwF, World.cell?_setCell_other _ _ _ _ (fun e => hgb (congrArg Addr.block e)), World.cell?_setCell_other _ _ _ _ (fun e => hgb (congrArg Addr.block e)), World.cell?_setCell_other _ _ _ _ (fun e => hgb (congrArg Addr.block e))]
    exact t2
  have y0 : wF.cell? ⟨g, L * 3, none⟩ = some (.int .i64 ((q : Int) + 1)) := by
    rw [← hwF, World.cell?_setCell_other _ _ _ _ (fun e => by have e' := congrArg Addr.off e; simp only at e'; omega), World.cell?_setCell_other _ _ _ _ (fun e => by have e' := congrArg Addr.off e; simp only at e'; omega)]
    exact World.cell?_setCell_same _ _ _ t0
  have HF := Lib.hid (And.intro hfin (And.intro hk3' (And.intro hL1 hq)))
  have Hr := Lib.hid hr
  clear hr hby hk3 hk3' hB3 hB4 hfin hss1 hby0 hL1 hgv hq d1 d2 e3
  have gw : IntKind.i64.wrap ((q : Int) + 1) = (q : Int) + 1 := IntWalk.i64_in _ (by omega)
  go_cut [6] (fun s6 wx => s6 = .int .i64 L ∧ wx = wF)
  case first =>
    go_region_law ((refine step_run (by rfl) (.const (.slice none 0 0)) (.tmp 91) 35 (by rfl) (.slice none 0 0) (.slice pv len capv) (by rfl) (by simp [Act.eval, Act.put]) _ w3 Hr.out ?_))
    all_goals (go_wp2_with fail; go_meet; exact ⟨rfl, rfl⟩)
  case rest =>
    obtain ⟨rfl, rfl⟩ := hcut
    clear hwF gw
    go_wp2_with fail
    go_ret2
    obtain ⟨⟨⟨qs, hq1⟩, hkF⟩, hk3, _, hqq⟩ := HF.out
    refine ⟨ret2p (by have h0 : (0 : Nat) = q := hqq; have := Hus.out.2.2.2.2.1; omega), ?_, fun q => F1 q ∨ Own wT.heap.size w3 q, ?_, ss1, fs1, qs, ?_⟩
    · refine kp_new (HB.out.2.1.trans' (hk3.mono (G := F) fun _ _ e => e.elim)) (F' := fun q => F1 q ∨ Own wT.heap.size w3 q) ?_ hkF
      exact fun q hq => hq.elim (fun e => (Hn.out q e).elim .inl (fun e => .inr (Nat.le_trans H0.out.2.1.size e))) (fun e => .inr (Nat.le_trans HB.out.2.1.size e.1))
    · exact fun q hq => hq.elim (fun e => (Hn.out q e).elim .inl (fun e => .inr (Nat.le_trans H0.out.2.1.size e))) (fun e => .inr (Nat.le_trans HB.out.2.1.size e.1))
    · have e : ({ a with slots := a.slots ++ [(⟨[], 0, 0⟩ : Sl)] } : Bn).slots.set L ⟨l, 1, 0⟩ = a.slots ++ [(⟨l, 1, 0⟩ : Sl)] := by simp [← Hus.out.2.2.2.2.1]
      rw [e] at hq1
      exact hq1

end
end Go.Proofs.Ytlnckpjpoaokjaa
