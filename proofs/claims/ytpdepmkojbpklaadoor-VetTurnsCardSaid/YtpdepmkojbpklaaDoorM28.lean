/- A function that is right by itself: its instructions, of any Op. -/
import Derived.Test.YtpdepmkojbpklaaDoorM21
import Derived.Test.YtpdepmkojbpklaaDoorM27
/- A function that is right by itself: its instructions, of any Op. -/
namespace Go.Proofs.YtpdepmkojbpklaaDoor
open Go.RowKit

/-- what function tells -/
def FunPostA (tab : Nat → Int) (nl : Nat) (fns : List Fn4) (i : Nat) (f : Fn4) (w : World) (e : Ending) (w' : World) : Prop :=
  ((e = .returned .nilIface ∧ FunGoodA tab nl fns i f) ∨ (e = .returned (.iface 42 (.int .i64 11)) ∧ vhead fns i f = false) ∨
    ∃ (p : Nat) (k : Int), e = .returned (.iface 92 (.agg #[.int .i64 p, .iface 42 (.int .i64 k)])) ∧ k ≠ 0 ∧ FunSlipA tab nl fns i f p k) ∧ Kp (fun _ => False) w w'
attribute [local go_sem] shArr_size rd_fold rd_size rd_new
set_option maxRecDepth 100000 in
set_option maxHeartbeats 4000000 in
theorem functionA {tab : Nat → Int} {F : Nat → Prop} {w : World} {nm : ByteArray} {vl : Value} {fns : List Fn4} {pf : Option Addr} {n cf : Nat} (h : FnsAt F w fns (.slice pf n cf)) (hF : ∀ q, F q → q < w.heap.size)
    {pl : Option Addr} {nl cl : Nat} (hvl : vl = .slice pl nl cl) (hnl : nl ≤ 100000) (hnf : fns.length ≤ 100000) (i : Nat) (f : Fn4) (hf : fns[i]? = some f) (hFl : LaidF tab w) (hgood : vhead fns i f = true) :
    Calls Tryd.prog 37 #[.agg #[.string nm, vl, .slice pf n cf], .int .i64 i] w (FunPostA tab nl fns i f w) := by
  subst hvl
  have HFl := Lib.hid hFl
  clear hFl
  have HB := Lib.hid hgood
  clear hgood
  obtain ⟨pf', cf', e, h1, h2, h3⟩ := id h
  simp only [Value.slice.injEq] at e
  obtain ⟨rfl, rfl, rfl⟩ := e
  obtain ⟨b, off, q0, q1, q2, q3, rfl, hb, a0, a1, a2, a3, vc, hq, hqa, hqs, hqn, hcf⟩ := h3 i f hf
  obtain ⟨pc, nc, cc, rfl⟩ := hcf.form
  obtain ⟨pc', cc', e, g1, g2, g3⟩ := id hcf
  simp only [Value.slice.injEq] at e
  obtain ⟨rfl, rfl, rfl⟩ := e
  simp only [List.cons.injEq, and_true] at hq
  obtain ⟨rfl, rfl, rfl, rfl⟩ := hq
  have hil := (List.getElem?_eq_some_iff.1 hf).1
  obtain ⟨w1, hw1⟩ : ∃ w1, w.alloc (.cells #[.string nm, .slice pl nl cl, .slice (some ⟨b, off, none⟩) fns.length cf] 26) = w1 := ⟨_, rfl⟩
  have hk1 : Kp (fun _ => False) w w1 := by rw [← hw1]; exact (Kp.refl _ w).alloc _
  have hz1 : w1.heap.size = w.heap.size + 1 := by rw [← hw1]; simp
  have hbm : w1.heap[w.heap.size]? = some (.cells #[.string nm, .slice pl nl cl, .slice (some ⟨b, off, none⟩) fns.length cf] 26 (0, 0)) := by rw [← hw1]; exact heap_alloc_new w _
  obtain ⟨wq, hwq⟩ : ∃ wq, w1.alloc (.cells #[.string f.name, .int .i64 f.args, .int .i64 f.slots, .slice pc f.code.length cc] 32) = wq := ⟨_, rfl⟩
  have hkq : Kp (fun _ => False) w1 wq := by rw [← hwq]; exact (Kp.refl _ w1).alloc _
  have hbq : wq.heap[w1.heap.size]? = some (.cells #[.string f.name, .int .i64 f.args, .int .i64 f.slots, .slice pc f.code.length cc] 32 (0, 0)) := by rw [← hwq]; exact heap_alloc_new w1 _
  have hzq : wq.heap.size = w.heap.size + 2 := by rw [← hwq]; simp; omega
  have hbm2 : wq.heap[w.heap.size]? = some (.cells #[.string nm, .slice pl nl cl, .slice (some ⟨b, off, none⟩) fns.length cf] 26 (0, 0)) := (hkq.block _ (by omega) (fun e => e)).trans hbm
  have kc : ∀ i u, w.cell? ⟨b, i, none⟩ = some u → w1.cell? ⟨b, i, none⟩ = some u := fun i u e => keeps_cell hk1 e
  have x0 := kc _ _ a0
  have x1 := kc _ _ a1
  have x2 := kc _ _ a2
  have x3 := kc _ _ a3
  rw [hz1] at hbq
  have m2 : w1.cell? ⟨w.heap.size, 2, none⟩ = some (.slice (some ⟨b, off, none⟩) fns.length cf) := by rw [cell_of_row w1 _ 2 _ _ _ hbm]; rfl
  have hii : (i : Int) < fns.length := by omega
  have H := Lib.hid (And.intro h (And.intro hF (And.intro hf (And.intro hcf (And.intro (hk1.trans' hkq) (And.intro hbq (And.intro hbm2 hzq)))))))
  clear h3 a0 a1 a2 a3 kc hk1 hkq hbm hcf g3 h hF hqa hqs hbq hbm2
  go_enter Tryd.func37, Tryd.ntmps37
  go_upto_region 2 with fail
  have HN := Lib.hid (fun (wx : World) (k : Kp (fun _ => False) wq wx) => named_any (FnsAt.take (H.out.1.imp (fun _ e => e) (fun b j u _ e => keeps_cell (H.out.2.2.2.2.1.trans' k) e)) i (Nat.le_of_lt hil)) (fun q e => by have := H.out.2.1 q e; have := k.size; have := H.out.2.2.2.2.1.size; omega) f.name)
  have hic : (i : Int) ≤ cf := by omega
  have y0 : wq.cell? ⟨w.heap.size + 1, 0, none⟩ = some (.string f.name) := by rw [cell_of_row wq _ 0 _ _ _ H.out.2.2.2.2.2.1]; rfl
  have p2 : wq.cell? ⟨w.heap.size, 2, none⟩ = some (.slice (some ⟨b, off, none⟩) fns.length cf) := by rw [cell_of_row wq _ 2 _ _ _ H.out.2.2.2.2.2.2.1]; rfl
  have HW := Lib.hid (And.intro hw1 hwq)
  clear hw1 hwq m2 x0 x1 x2 x3
  go_cut [30] (fun s30 wx => s30 = .bool (!(wi f.name.size 1 255 && !vnamed (fns.take i) f.name)) ∧ Kp (fun _ => False) wq wx)
  case first =>
    rcases hc : wi f.name.size 1 255 with _ | _
    · have HC := Lib.hid hc
      clear hc
      have hv : ∀ wx : World, Calls Tryd.prog 35 #[.int .i64 f.name.size, .int .i64 1, .int .i64 255] wx fun e w' => e = .returned (.bool false) ∧ w' = wx := fun wx => (vin_any _ _ _ wx).mono fun e w' h => ⟨by rw [h.1, HC.out], h.2.symm⟩
      have HV := Lib.hid hv
      clear hv
      go_quiet ((go_at_call 35; refine Calls.quiet_of_same (HV.out _)))
      go_wp2_with fail
      go_meet
      exact ⟨by rw [HC.out]; rfl, kp_drewN (Kp.refl (fun _ => False) wq) _⟩
    · have HC := Lib.hid hc
      clear hc
      go_region_law (first
        | (refine vstep_fn (by rfl) 35 #[.tmp 19, .const (.int .i64 1), .const (.int .i64 255)] #[3, 3, 3] (by rfl) cf_within #[.int .i64 f.name.size, .int .i64 1, .int .i64 255] (by first | (simp [Act.eval]; done) | simp [Act.eval, Act.put]) ?_; refine (vin_any _ _ _ _).mono ?_; rintro e w5 ⟨rfl, rfl⟩; rw [HC.out]; refine ⟨_, rfl, ?_⟩)
        | (refine vstep_fnw (by rfl) 49 #[.tmp 26, .tmp 28] #[24, 9] (by rfl) cf_named #[.slice (some ⟨b, off, none⟩) i cf, .string f.name] (by first | (simp [Act.eval]; done) | simp [Act.eval, Act.put]) ?_; refine (HN.out _ (Kp.refl (fun _ => False) wq).drew).mono ?_; rintro e w5 ⟨rfl, hk5⟩; refine ⟨_, rfl, ?_⟩))
      all_goals
        refine Met.intro ?_
        go_step
        go_meet
        exact ⟨by rw [HC.out]; simp, (Kp.refl (fun _ => False) wq).drew.trans' hk5⟩
  case rest =>
    obtain ⟨rfl, hkx⟩ := hcut
    have hb1 := (hkx.block _ (by have := H.out.2.2.2.2.2.2.2; omega) (fun e => e)).trans H.out.2.2.2.2.2.1
    have HX := Lib.hid (And.intro (H.out.2.2.2.2.1.trans' hkx) (And.intro hb1 hkx))
    have y1 := (cell_of_row _ _ 1 _ _ _ hb1).trans rfl
    have y2 := (cell_of_row _ _ 2 _ _ _ hb1).trans rfl
    have y3 := (cell_of_row _ _ 3 _ _ _ hb1).trans rfl
    simp only [List.getElem?_toArray, List.getElem?_cons_succ, List.getElem?_cons_zero] at y1 y2 y3
    clear y0 p2 hkx hb1
    rcases hh : (wi f.name.size 1 255 && !vnamed (fns.take i) f.name) with _ | _
    · exfalso
      have := HB.out
      unfold vhead at this
      rw [hh] at this
      simp at this
    have HH := Lib.hid hh
    clear hh
    go_wp2_with fail
    refine (vin_any _ _ _ _).mono ?_
    rintro e w2 ⟨rfl, rfl⟩
    rcases hA : wi f.args 0 8 with _ | _
    · exfalso
      have := HB.out
      unfold vhead at this
      rw [hA] at this
      simp at this
    have HA := Lib.hid hA
    clear hA
    go_wp2_with fail
    refine (vin_any _ _ _ _).mono ?_
    rintro e w3 ⟨rfl, rfl⟩
    rcases hS : wi f.slots 0 32 with _ | _
    · exfalso
      have := HB.out
      unfold vhead at this
      rw [hS] at this
      simp at this
    have HS := Lib.hid hS
    clear hS
    go_wp2_with fail
    refine (vin_any _ _ _ _).mono ?_
    rintro e w4 ⟨rfl, rfl⟩
    rcases hL : wi f.code.length 1 16384 with _ | _
    · exfalso
      have := HB.out
      unfold vhead at this
      rw [hL] at this
      simp at this
    have HL := Lib.hid hL
    clear hL
    have z0 := (cell_of_row _ _ 0 _ _ _ HX.out.2.1).trans rfl
    have hbm := (HX.out.2.2.block _ (by have := H.out.2.2.2.2.2.2.2; omega) (fun e => e)).trans H.out.2.2.2.2.2.2.1
    go_upto_region 6 with fail
    have x0 := (cell_of_row _ _ 0 _ _ _ hbm).trans rfl
    have x1 := (cell_of_row _ _ 1 _ _ _ hbm).trans rfl
    have x2 := (cell_of_row _ _ 2 _ _ _ hbm).trans rfl
    simp only [List.getElem?_toArray, List.getElem?_cons_succ, List.getElem?_cons_zero] at z0 x0 x1 x2
    have HM := Lib.hid hbm
    clear hbm
    go_cut [6] (fun s6 wx => ∃ R, s6 = .pointer (some ⟨R, 0, none⟩) ∧ wx.heap[R]? = some (.cells (rdCells (.string nm) (.slice pl nl cl) (.slice (some ⟨b, off, none⟩) fns.length cf) (.string f.name) (.int .i64 f.args) (.int .i64 f.slots) (.slice pc f.code.length cc)) 117 (0, 0)) ∧ Kp (fun _ => False) wc wx)
    case first =>
      have ka := (Kp.refl (fun _ => False) wc).alloc (.cells Tryd.zeroCells117 117)
      have fa0 := keeps_cell ka z0
      have fa1 := keeps_cell ka y1
      have fa2 := keeps_cell ka y2
      have fa3 := keeps_cell ka y3
      have ga0 := keeps_cell ka x0
      have ga1 := keeps_cell ka x1
      have ga2 := keeps_cell ka x2
      clear ka
      go_region_law (refine vstep_fn (by rfl) 50 #[] #[] (by rfl) cf_shapes #[] (by first | rfl | (simp; done)) ?_; refine (shapes_any _).mono ?_; rintro e w5 ⟨rfl, hk5⟩; have kk : Kp (fun _ => False) wc w5 := (by first | exact (Kp.trans' ((Kp.refl _ wc).alloc _).drew hk5) | exact Kp.trans' (Kp.refl _ wc).drew hk5); have e0 := keeps_cell kk z0; have e1 := keeps_cell kk y1; have e2 := keeps_cell kk y2; have e3 := keeps_cell kk y3; have d0 := keeps_cell kk x0; have d1 := keeps_cell kk x1; have d2 := keeps_cell kk x2; have ka := kk.alloc (.cells Tryd.zeroCells117 117); have ea0 := keeps_cell ka z0; have ea1 := keeps_cell ka y1; have ea2 := keeps_cell ka y2; have ea3 := keeps_cell ka y3; have da0 := keeps_cell ka x0; have da1 := keeps_cell ka x1; have da2 := keeps_cell ka x2; clear ka kk; (first | (have hst := rd_old nm f.name pl (some ⟨b, off, none⟩) pc nl fns.length f.code.length cl cf cc f.args f.slots (W := wc) wc.heap.size rfl ⟨hk5.os, hk5.tape, hk5.output, hk5.size, hk5.block⟩) | skip); refine ⟨_, rfl, ?_⟩)
      all_goals
        refine Met.intro ?_
        go_step
        go_meet
        first
          | exact ⟨_, rfl, heap_alloc_new w5 _, ((Kp.refl (fun _ => False) wc).drew.trans' hk5).alloc _⟩
          | exact ⟨_, rfl, rd_after hk5⟩
    case rest =>
      obtain ⟨R, rfl, hbR, hk6⟩ := hcut
      have hb1 := (hk6.block _ (Array.getElem?_eq_some_iff.1 HX.out.2.1).1 (fun e => e)).trans HX.out.2.1
      have hkw := HX.out.1.trans' hk6
      have hc64 : wi (f.code.length : Int) 1 16384 = true := HL.out
      have hlen := wi_true.1 hc64
      have hsl := wi_true.1 HS.out
      have hrd : ∀ wx, Kp (fun _ => False) wc wx → RdAt wx R pl nl cl (some ⟨b, off, none⟩) fns.length cf f.slots pc f.code.length cc := fun wx k => by
        have e := (k.block _ (Array.getElem?_eq_some_iff.1 hbR).1 (fun e => e)).trans hbR
        exact ⟨by rw [cell_of_row wx _ 1 _ _ _ e]; rfl, by rw [cell_of_row wx _ 2 _ _ _ e]; rfl, by rw [cell_of_row wx _ 5 _ _ _ e]; rfl, by rw [cell_of_row wx _ 6 _ _ _ e]; rfl⟩
      have hsh : ∀ wx, Kp (fun _ => False) wc wx → ∀ (o i : Nat), o < 42 → i < 3 → wx.cell? ⟨R, 7 + o * 3 + i, none⟩ = some (.int .i64 (vsh o i)) := fun wx k o i ho hi => by
        have e := (k.block _ (Array.getElem?_eq_some_iff.1 hbR).1 (fun e => e)).trans hbR
        rw [cell_of_row wx _ _ _ _ _ e]
        exact rd_shape _ _ _ _ _ _ _ o i ho hi
      have hfn : ∀ wx, Kp (fun _ => False) wc wx → ∀ (x : In4), x.op = 16 → ∀ k : Nat, x.b = k → k < fns.length → ∃ (b' off' : Nat), some (⟨b, off, none⟩ : Addr) = some ⟨b', off', none⟩ ∧ wx.cell? ⟨b', off' + k * 4 + 1, none⟩ = some (.int .i64 (arOf fns x)) := fun wx k x _ j hj hjl => by
        obtain ⟨pf2, cf2, e, -, -, h3⟩ := H.out.1
        simp only [Value.slice.injEq] at e
        obtain ⟨e, -, -⟩ := e
        obtain ⟨b2, off2, q0, q1, q2, q3, e2, -, -, a1, -, -, vc, hq, -⟩ := h3 j fns[j] (List.getElem?_eq_getElem hjl)
        simp only [List.cons.injEq, and_true] at hq
        obtain ⟨-, rfl, -, -⟩ := hq
        rw [← e] at e2
        obtain ⟨rfl, rfl⟩ : b = b2 ∧ off = off2 := by simpa using e2
        have ha : arOf fns x = fns[j].args := by
          unfold arOf
          rw [hj, show ((j : Int)).toNat = j from by omega, List.getElem?_eq_getElem hjl]
          rfl
        rw [ha]
        exact ⟨b, off, rfl, keeps_cell (hkw.trans' k) a1⟩
      have hcd : ∀ wx, Kp (fun _ => False) wc wx → CodeAt F wx f.code (.slice pc f.code.length cc) := fun wx k => H.out.2.2.2.1.imp (fun _ e => e) (fun _ _ _ _ e => keeps_cell (hkw.trans' k) e)
      have HV := Lib.hid (And.intro hrd (And.intro hsh (And.intro hfn (And.intro hcd (And.intro hkw hb1)))))
      clear y1 y2 y3 hrd hsh hfn hcd hkw hbR hk6 z0 x0 x1 x2
      have y3 := (cell_of_row _ _ 3 _ _ _ hb1).trans rfl
      simp only [List.getElem?_toArray, List.getElem?_cons_succ, List.getElem?_cons_zero] at y3
      clear hb1
      go_wp2_with fail
      go_loopg [57] f.code.length (fun gk jj wr => ∃ j : Nat, j ≤ f.code.length ∧ gk = f.code.length - j ∧ jj = .int .i64 j ∧ (∀ (i : Nat) (x : In4), i < j → f.code[i]? = some x → vcodeA tab nl fns f x = none) ∧ Kp (fun _ => False) wc wr)
      case atStart => exact ⟨0, by omega, rfl, rfl, fun i x hi => by omega, Kp.refl _ _⟩
      case round =>
        obtain ⟨j, hj, hgk, rfl, hno, hk⟩ := hrel
        by_cases hlt : j < f.code.length
        · obtain ⟨x, hjx⟩ : ∃ x, f.code[j]? = some x := ⟨f.code[j], List.getElem?_eq_getElem hlt⟩
          obtain ⟨pc2, cc2, e, -, -, h3⟩ := HV.out.2.2.2.1 wr hk
          simp only [Value.slice.injEq] at e
          obtain ⟨rfl, -, rfl⟩ := e
          obtain ⟨bc, oc, rfl, -, x0, x1, x2, x3, -⟩ := h3 j x hjx
          clear h3
          have hli : (j : Int) < f.code.length := by omega
          obtain ⟨wz, hwz⟩ : ∃ wz, wr.alloc (.cells #[.int .i64 x.op, .int .i64 x.a, .int .i64 x.b, .int .i64 x.c] 29) = wz := ⟨_, rfl⟩
          have hkz : Kp (fun _ => False) wr wz := by rw [← hwz]; exact (Kp.refl _ wr).alloc _
          have hbz : wz.heap[wr.heap.size]? = some (.cells #[.int .i64 x.op, .int .i64 x.a, .int .i64 x.b, .int .i64 x.c] 29 (0, 0)) := by rw [← hwz]; exact heap_alloc_new wr _
          obtain ⟨v0, v1, v2, v3, vf⟩ := vfour_facts hbz
          have H6 := Lib.hid (And.intro (hk.trans' hkz) (And.intro hno hjx))
          clear hk hkz hbz hno
          go_wp2_with fail
          refine (instructionA (HFl.out.kp (HV.out.2.2.2.2.1.trans' H6.out.1)) (HV.out.1 _ H6.out.1) (HV.out.2.1 _ H6.out.1) hnl hnf (by omega) hsl.1 hsl.2 x (arOf fns x) (fun e => HV.out.2.2.1 _ H6.out.1 x e)).mono ?_
          rintro e w7 ⟨rfl, hk7⟩
          rcases hv : vinsA tab nl fns.length f.code.length f.slots x (arOf fns x) with _ | k
          · have H7 := Lib.hid (And.intro (H6.out.1.trans' hk7) hv)
            clear hk7 hv
            simp only [errv]
            go_wp2_with fail
            go_roundg (f.code.length - (j + 1))
            case measure => omega
            case rel => exact ⟨j + 1, by omega, rfl, by go_num, fun i y hi hy => by
              rcases Nat.lt_or_ge i j with h1 | h1
              · exact H6.out.2.1 i y h1 hy
              · obtain rfl : i = j := by omega
                obtain rfl := Option.some.inj (H6.out.2.2.symm.trans hy)
                exact H7.out.2, H7.out.1⟩
          · have H7 := Lib.hid (And.intro (H6.out.1.trans' hk7) hv)
            clear hk7 hv
            simp only [errv]
            go_wp2_with fail
            go_ret
            exact ⟨.inr (.inr ⟨j, k, rfl, vinsA_nz H7.out.2, HB.out, .inl ⟨x, H6.out.2.2, H6.out.2.1, H7.out.2⟩⟩), HV.out.2.2.2.2.1.trans' H7.out.1⟩
        · have hlt' : ¬ (j : Int) < f.code.length := by omega
          have hall : ∀ (p : Nat) (x : In4), f.code[p]? = some x → vcodeA tab nl fns f x = none := fun p x hp => hno p x (by have := (List.getElem?_eq_some_iff.1 hp).1; omega) hp
          have hb2 := (hk.block _ (Array.getElem?_eq_some_iff.1 HV.out.2.2.2.2.2).1 (fun e => e)).trans HV.out.2.2.2.2.2
          clear y3
          have y3 := (cell_of_row _ _ 3 _ _ _ hb2).trans rfl
          simp only [List.getElem?_toArray, List.getElem?_cons_succ, List.getElem?_cons_zero] at y3
          have H6 := Lib.hid (And.intro hk hall)
          clear hk hall hno hb2
          go_wp2_with fail
          refine (walked_any (HV.out.2.2.2.1 _ H6.out.1) (fun q e => by have := H.out.2.1 q e; have := HV.out.2.2.2.2.1.size; have := H6.out.1.size; omega) (by omega) (by omega) (labOk_ofA (tab := tab) (nl := nl) (nf := fns.length) (sl := f.slots) (ar := fun p => arOf fns (f.code[p]?.getD ⟨0, 0, 0, 0⟩)) (fun p x hp => by
            have := H6.out.2 p x hp
            simp only [hp, Option.getD_some]
            exact this))).mono ?_
          rintro e w7 (⟨tg, tc, ts, rfl, -, -, hwk, hk7⟩ | ⟨p, t, k, rfl, hre, hst, hk7⟩)
          · have H7 := Lib.hid (H6.out.1.trans' hk7)
            clear hk7
            go_wp2_with fail
            go_ret
            exact ⟨.inl ⟨rfl, HB.out, H6.out.2, ts, hwk⟩, HV.out.2.2.2.2.1.trans' H7.out⟩
          · have H7 := Lib.hid (H6.out.1.trans' hk7)
            clear hk7
            go_wp2_with fail
            go_ret
            exact ⟨.inr (.inr ⟨p, k, rfl, stepBad_nz hst, HB.out, .inr ⟨H6.out.2, t, hre, hst⟩⟩), HV.out.2.2.2.2.1.trans' H7.out⟩
end Go.Proofs.YtpdepmkojbpklaaDoor
