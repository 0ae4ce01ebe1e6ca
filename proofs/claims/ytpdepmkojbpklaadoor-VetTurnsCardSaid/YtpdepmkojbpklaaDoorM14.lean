/- Going through a function's instructions: from one that is reached, on. -/
import Derived.Test.YtpdepmkojbpklaaDoorM13
/- Going through a function's instructions: from one that is reached, on. -/
namespace Go.Proofs.YtpdepmkojbpklaaDoor
open Go.RowKit

def FrBad (code : List In4) (ts : List Int) (x : In4) (i : Nat) (t : Int) (k : Int) : Prop :=
  (k = 14 ∧ vsteps x i t = none) ∨ ∃ s q u, vsteps x i t = some s ∧ (q, u) ∈ s ∧ ((q = (code.length : Int) ∧ k = 13) ∨ (q < (code.length : Int) ∧ k = 14 ∧ (8 < u ∨ ∃ (u' : Int) (q' : Nat), q = q' ∧ u' ≠ u ∧ u' ≠ -1 ∧ (ts[q']? = some u' ∨ (q, u') ∈ s)))) ∧ ∃ s0 r, s = s0 ++ (q, u) :: r ∧ ∀ q' u', (q', u') ∈ s0 → q' < (code.length : Int)
def FrPost (B : Nat) (F : Nat → Prop) (w : World) (W tg tc : Nat) (po : Option Addr) (cc : Nat) (code : List In4) (ts pend : List Int) (x : In4) (i : Nat) (t : Int) (e : Ending) (w' : World) : Prop :=
  (∃ k : Int, e = .returned (.iface 42 (.int .i64 k)) ∧ FrBad code ts x i t k ∧ Kp (fun q => B ≤ q) w w') ∨
  (e = .returned .nilIface ∧ ∃ s ts' pend' g' cap', vsteps x i t = some s ∧ WkAt B F w' W tg tc g' cap' po cc code ts' pend' ∧ Grows ts pend s ts' pend' ∧ Kp (fun q => B ≤ q) w w')

def vset4 (w : World) (A : Nat) (c0 c1 c2 c3 : Value) : World := (((w.setCell ⟨A, 0, none⟩ c0).setCell ⟨A, 1, none⟩ c1).setCell ⟨A, 2, none⟩ c2).setCell ⟨A, 3, none⟩ c3
theorem vset4_any {w : World} {A : Nat} {d0 d1 d2 d3 c0 c1 c2 c3 : Value} {T : TypeId} (h : w.heap[A]? = some (.cells #[d0, d1, d2, d3] T (0, 0))) :
    (vset4 w A c0 c1 c2 c3).heap[A]? = some (.cells #[c0, c1, c2, c3] T (0, 0)) ∧ Kp (fun q => q = A) w (vset4 w A c0 c1 c2 c3) :=
  ⟨heap_set_same (heap_set_same (heap_set_same (heap_set_same h _) _) _) _, ((((Kp.refl (fun q => q = A) w).setCell _ _ (.inl rfl)).setCell _ _ (.inl rfl)).setCell _ _ (.inl rfl)).setCell _ _ (.inl rfl)⟩
theorem vfour_facts {w : World} {A : Nat} {c0 c1 c2 c3 : Value} {T : TypeId} (h : w.heap[A]? = some (.cells #[c0, c1, c2, c3] T (0, 0))) :
    w.cell? ⟨A, 0, none⟩ = some c0 ∧ w.cell? ⟨A, 1, none⟩ = some c1 ∧ w.cell? ⟨A, 2, none⟩ = some c2 ∧ w.cell? ⟨A, 3, none⟩ = some c3 ∧ ∀ j, w.frozen? ⟨A, j, none⟩ = false :=
  ⟨by rw [cell_of_row w A 0 _ _ _ h]; rfl, by rw [cell_of_row w A 1 _ _ _ h]; rfl, by rw [cell_of_row w A 2 _ _ _ h]; rfl, by rw [cell_of_row w A 3 _ _ _ h]; rfl, fun j => by simp [World.frozen?, h]⟩
theorem kp_fresh {F : Nat → Prop} {w w1 w2 : World} (h : Kp F w w1) (k : Kp (fun q => F q ∨ w.heap.size ≤ q) w1 w2) : Kp F w w2 :=
  ⟨k.os.trans h.os, k.tape.trans h.tape, k.output.trans h.output, Nat.le_trans h.size k.size, fun i hi hF =>
    (k.block i (Nat.lt_of_lt_of_le hi h.size) (fun e => e.elim hF (fun e => by omega))).trans (h.block i hi hF)⟩
theorem reach_step {B : Nat} {F : Nat → Prop} {w0 w : World} {W tg tc g cap : Nat} {po : Option Addr} {cc : Nat} {code : List In4} {ts pend ts1 pend1 : List Int} {x : In4} {i : Nat} {t : Int} {s0 s r : List (Int × Int)} {q : Nat} {u : Int}
    (h : WkAt B F w W tg tc g cap po cc code ts1 pend1) (hG : Grows ts pend s0 ts1 pend1) (hq : q ≤ code.length) (hc : code.length ≤ 800000) (hu0 : 0 ≤ u) (hu9 : u ≤ 9) (hs : vsteps x i t = some s) (hsr : s = s0 ++ ((q : Int), u) :: r) (hk : Kp (fun q => B ≤ q) w0 w) :
    Calls Tryd.prog 55 #[.pointer (some ⟨W, 0, none⟩), .int .i64 q, .int .i64 u] w fun e w' => (∃ k : Int, e = .returned (.iface 42 (.int .i64 k)) ∧ FrBad code ts x i t k ∧ Kp (fun q => B ≤ q) w0 w') ∨
      (e = .returned .nilIface ∧ ∃ ts2 pend2 g2 cap2, WkAt B F w' W tg tc g2 cap2 po cc code ts2 pend2 ∧ Grows ts pend (s0 ++ [((q : Int), u)]) ts2 pend2 ∧ Kp (fun q => B ≤ q) w0 w' ∧ Kp (fun q => q = W ∨ q = tg ∨ q = g) w w') := by
  have hB3 : ∀ w', Kp (fun q => q = W ∨ q = tg ∨ q = g) w w' → Kp (fun q => B ≤ q) w w' := fun w' k => k.mono fun q _ e => by have := h.bW; have := h.bg; have := h.bt; omega
  refine (reach_any h hq hc hu0 hu9).mono ?_
  rintro e w' (⟨k, rfl, hb, hk2⟩ | ⟨rfl, hlt, h8, ts', pend', g', cap', hW, hst, hk2⟩)
  · refine .inl ⟨k, rfl, .inr ⟨s, q, u, hs, by rw [hsr]; simp, ?_, s0, r, hsr, fun q' u' e => by
      obtain ⟨q2, e5, e6, -⟩ := hG.got q' u' e
      have h5 := (List.getElem?_eq_some_iff.1 e6).1
      have h6 := h.len
      omega⟩, hk.trans' (hB3 _ hk2)⟩
    rcases hb with ⟨e, rfl⟩ | ⟨hlt, rfl, hb⟩
    · exact .inl ⟨by omega, rfl⟩
    · refine .inr ⟨by omega, rfl, hb.imp (fun e => e) fun ⟨u', e1, e2, e3⟩ => ⟨u', q, rfl, e3, e2, ?_⟩⟩
      exact (hG.new q u' e1 e2).imp (fun e => e) (fun e => by rw [hsr]; exact List.mem_append_left _ e)
  · exact .inr ⟨rfl, ts', pend', g', cap', hW, hG.step (by omega) h8 hst, hk.trans' (hB3 _ hk2), hk2⟩

set_option maxRecDepth 100000 in
set_option maxHeartbeats 8000000 in
theorem from_any {B : Nat} {F : Nat → Prop} {w : World} {W tg tc g cap : Nat} {po : Option Addr} {cc : Nat} {code : List In4} {ts pend : List Int} {x : In4} {i : Nat} {t : Int} (h : WkAt B F w W tg tc g cap po cc code ts pend) (hc : code.length ≤ 800000) (hx : code[i]? = some x) (ht : ts[i]? = some t) (ht0 : 0 ≤ t) (ht8 : t ≤ 8)
    (hB : B ≤ w.heap.size) (hlab : ∀ s q u, vsteps x i t = some s → (q, u) ∈ s → 0 ≤ q ∧ q ≤ code.length) :
    Calls Tryd.prog 42 #[.pointer (some ⟨W, 0, none⟩), .int .i64 i] w (FrPost B F w W tg tc po cc code ts pend x i t) := by
  obtain ⟨f0, f1, f2, ff⟩ := h.facts
  obtain ⟨ct, -⟩ := h.tr.cell ht
  obtain ⟨po', cc', e', k1, k2, k3⟩ := id h.co
  injection e' with e1 e2 e3
  subst e1 e3
  obtain ⟨b, off, rfl, hFb, x0, x1, x2, x3, hxw⟩ := k3 i x hx
  have hi1 := (List.getElem?_eq_some_iff.1 hx).1
  have hi2 := (List.getElem?_eq_some_iff.1 ht).1
  have hii : (i : Int) < code.length := by omega
  have hit : (i : Int) < ts.length := by omega
  have hl8 : code.length ≤ 800000 := hc
  have hka : Kp (fun _ => False) w (w.alloc (.cells #[.int .i64 0, .int .i64 0, .int .i64 0, .int .i64 0] 29)) := (Kp.refl _ w).alloc _
  have hba : (w.alloc (.cells #[.int .i64 0, .int .i64 0, .int .i64 0, .int .i64 0] 29)).heap[w.heap.size]? = some (.cells #[.int .i64 0, .int .i64 0, .int .i64 0, .int .i64 0] 29 (0, 0)) := heap_alloc_new w _
  have H := Lib.hid (And.intro h (And.intro hka (And.intro hba (And.intro hB (And.intro hlab hc)))))
  have ka : ∀ b i u, w.cell? ⟨b, i, none⟩ = some u → (w.alloc (.cells #[.int .i64 0, .int .i64 0, .int .i64 0, .int .i64 0] 29)).cell? ⟨b, i, none⟩ = some u := fun b i u e => (hka.cell (World.block_lt_of_cell? _ _ e) (fun e => e)).trans e
  have g0 := ka _ _ _ f0
  have g1 := ka _ _ _ f1
  have gt := ka _ _ _ ct
  have z0 := ka _ _ _ x0
  have z1 := ka _ _ _ x1
  have z2 := ka _ _ _ x2
  have z3 := ka _ _ _ x3
  obtain ⟨n0, n1, n2, n3, nf⟩ := vfour_facts hba
  have hkb : Kp (fun _ => False) w (w.alloc (.cells #[.int .i64 x.op, .int .i64 x.a, .int .i64 x.b, .int .i64 x.c] 29)) := (Kp.refl _ w).alloc _
  have kb : ∀ b i u, w.cell? ⟨b, i, none⟩ = some u → (w.alloc (.cells #[.int .i64 x.op, .int .i64 x.a, .int .i64 x.b, .int .i64 x.c] 29)).cell? ⟨b, i, none⟩ = some u := fun b i u e => (hkb.cell (World.block_lt_of_cell? _ _ e) (fun e => e)).trans e
  have g1' := kb _ _ _ f1
  have gt' := kb _ _ _ ct
  obtain ⟨hrow, hkS⟩ := vset4_any (c0 := .int .i64 x.op) (c1 := .int .i64 x.a) (c2 := .int .i64 x.b) (c3 := .int .i64 x.c) hba
  have HR := Lib.hid (And.intro hrow (kp_fresh hka (hkS.mono fun q _ e => .inr (by omega))))
  have HX := Lib.hid (And.intro hx ht)
  have HR2 := Lib.hid (And.intro (heap_alloc_new w (.cells #[.int .i64 x.op, .int .i64 x.a, .int .i64 x.b, .int .i64 x.c] 29)) hkb)
  clear h hka hba hB hlab hc hx ht k1 k2 k3 hxw f2 ff hFb hi1 hi2 ka kb hkb hrow hkS
  go_enter Tryd.func42, Tryd.ntmps42
  go_wp2_with fail
  go_cut [5, 6] (fun s5 s6 wx => s5 = .pointer (some ⟨w.heap.size, 0, none⟩) ∧ s6 = .int .i64 t ∧ wx.heap[w.heap.size]? = some (.cells #[.int .i64 x.op, .int .i64 x.a, .int .i64 x.b, .int .i64 x.c] 29 (0, 0)) ∧ Kp (fun _ => False) w wx)
  case first =>
    go_region_law fail
    all_goals
      refine Met.intro ?_
      go_step
      go_meet
      refine ⟨rfl, rfl, ?_, ?_⟩
      · first | exact HR2.out.1 | exact HR.out.1
      · first | exact HR2.out.2.drew | exact HR.out.2.drew
  case rest =>
    obtain ⟨rfl, rfl, hbw, hkw⟩ := hcut
    obtain ⟨y0, y1, y2, y3, yf⟩ := vfour_facts hbw
    obtain ⟨op, hop⟩ : ∃ op, x.op = op := ⟨_, rfl⟩
    rw [hop] at y0 hbw
    have hkB : Kp (fun q => B ≤ q) w wc := hkw.mono fun _ _ e => e.elim
    have HW := Lib.hid (And.intro (H.out.1.kp hkw) (And.intro hkB (And.intro hbw hop)))
    have hi9 : i < code.length := by omega
    have hsz := hkw.size
    clear hkw hkB hbw hop f0 f1 ct x0 x1 x2 x3 g0 g1 g1' gt gt' z0 z1 z2 z3 n0 n1 n2 n3 nf hii hit HR HR2
    by_cases c1 : op = 15 ∨ op = 14
    · by_cases htt : 0 < t
      · have hv : vsteps x i t = none := by simp only [vsteps, HW.out.2.2.2]; rw [if_pos c1, if_pos htt]
        have HV := Lib.hid hv
        clear hv
        rcases c1 with rfl | rfl
        all_goals
          go_wp2_with fail
          go_ret
          exact .inl ⟨14, rfl, .inl ⟨rfl, HV.out⟩, HW.out.2.1⟩
      · have hv : vsteps x i t = some [] := by simp only [vsteps, HW.out.2.2.2]; rw [if_pos c1, if_neg htt]
        have HV := Lib.hid hv
        clear hv
        rcases c1 with rfl | rfl
        all_goals
          go_wp2_with fail
          go_ret
          exact .inr ⟨rfl, [], ts, pend, _, _, HV.out, HW.out.1, Grows.refl _ _, HW.out.2.1⟩
    by_cases c2 : op = 26 ∨ op = 27
    · have hv : vsteps x i t = some [] := by simp only [vsteps, HW.out.2.2.2]; rw [if_neg c1, if_pos c2]
      have HV := Lib.hid hv
      clear hv c1
      rcases c2 with rfl | rfl
      all_goals
        go_wp2_with fail
        go_ret
        exact .inr ⟨rfl, [], ts, pend, _, _, HV.out, HW.out.1, Grows.refl _ _, HW.out.2.1⟩
    by_cases c3 : op = 24
    · have hv : vsteps x i t = some [(((i + 1 : Nat) : Int), t + 1), (vgoal x, t)] := by simp only [vsteps, HW.out.2.2.2]; rw [if_neg c1, if_neg c2, if_pos c3]
      obtain ⟨q, hq, hq2⟩ : ∃ q : Nat, vgoal x = q ∧ q ≤ code.length := by
        obtain ⟨h1, h2⟩ := H.out.2.2.2.2.1 _ (vgoal x) t hv (by simp)
        exact ⟨(vgoal x).toNat, by omega, by omega⟩
      have HQ := Lib.hid (And.intro hq hq2)
      rw [hq] at hv
      have HV := Lib.hid hv
      clear hv hq hq2
      clear c1 c2
      subst c3
      go_wp2_with fail
      rw [show (i : Int) + 1 = ((i + 1 : Nat) : Int) from by omega]
      refine (reach_step (x := x) (i := i) (t := t) HW.out.1 (Grows.refl ts pend) (q := i + 1) (u := t + 1) (by omega) hl8 (by omega) (by omega) HV.out (r := [((q : Int), t)]) rfl HW.out.2.1).mono ?_
      rintro e w3 (⟨k, rfl, hbad, hk3⟩ | ⟨rfl, ts2, pend2, g2, cap2, hW3, hG3, hk3, hk3'⟩)
      · have HE := Lib.hid (And.intro hbad hk3)
        clear hbad hk3
        go_wp2_with fail
        go_ret
        exact .inl ⟨k, rfl, HE.out.1, HE.out.2⟩
      · have hb3 := (hk3'.block _ (Array.getElem?_eq_some_iff.1 HW.out.2.2.1).1 (fun e => by have h1 := (Array.getElem?_eq_some_iff.1 H.out.1.pl.1).1; have h2 := H.out.1.tr.lt; have h3 := H.out.1.pl.2.2.lt; omega)).trans HW.out.2.2.1
        clear y0 y1 y2 y3 yf
        obtain ⟨y0, y1, y2, y3, yf⟩ := vfour_facts hb3
        have H3 := Lib.hid (And.intro hW3 (And.intro hG3 hk3))
        have hgo := goal_any x w3
        rw [HW.out.2.2.2, HQ.out.1] at hgo
        have HG := Lib.hid hgo
        clear hW3 hG3 hk3 hk3' hb3 hgo
        go_wp2_with fail
        refine HG.out.mono ?_
        rintro e w4 ⟨rfl, hk4⟩
        have H4 := Lib.hid hk4
        clear hk4 y0 y1 y2 y3 yf
        go_wp2_with fail
        refine (reach_step (x := x) (i := i) (t := t) (H3.out.1.kp H4.out) H3.out.2.1 (q := q) (u := t) HQ.out.2 hl8 (by omega) (by omega) HV.out (r := []) rfl (H3.out.2.2.trans' (H4.out.mono fun _ _ e => e.elim))).mono ?_
        rintro e w5 (⟨k, rfl, hbad, hk5⟩ | ⟨rfl, ts5, pend5, g5, cap5, hW5, hG5, hk5, -⟩)
        · have HE := Lib.hid (And.intro hbad hk5)
          clear hbad hk5
          go_wp2_with fail
          go_ret
          exact .inl ⟨k, rfl, HE.out.1, HE.out.2⟩
        · have HE := Lib.hid (And.intro hW5 (And.intro hG5 hk5))
          clear hW5 hG5 hk5
          go_wp2_with fail
          go_ret
          exact .inr ⟨rfl, _, ts5, pend5, _, _, HV.out, HE.out.1, HE.out.2.1, HE.out.2.2⟩
    by_cases c4 : op = 5 ∨ op = 6 ∨ op = 7 ∨ op = 8 ∨ op = 18 ∨ op = 22
    · have hv : vsteps x i t = some [(((i + 1 : Nat) : Int), t), (vgoal x, t)] := by simp only [vsteps, HW.out.2.2.2]; rw [if_neg c1, if_neg c2, if_neg c3, if_pos c4]
      obtain ⟨q, hq, hq2⟩ : ∃ q : Nat, vgoal x = q ∧ q ≤ code.length := by
        obtain ⟨h1, h2⟩ := H.out.2.2.2.2.1 _ (vgoal x) t hv (by simp)
        exact ⟨(vgoal x).toNat, by omega, by omega⟩
      have HQ := Lib.hid (And.intro hq hq2)
      rw [hq] at hv
      have HV := Lib.hid hv
      clear hv hq hq2
      clear c1 c2 c3
      rcases c4 with rfl | rfl | rfl | rfl | rfl | rfl
      all_goals
        go_wp2_with fail
        rw [show (i : Int) + 1 = ((i + 1 : Nat) : Int) from by omega]
        refine (reach_step (x := x) (i := i) (t := t) HW.out.1 (Grows.refl ts pend) (q := i + 1) (u := t) (by omega) hl8 (by omega) (by omega) HV.out (r := [((q : Int), t)]) rfl HW.out.2.1).mono ?_
        rintro e w3 (⟨k, rfl, hbad, hk3⟩ | ⟨rfl, ts2, pend2, g2, cap2, hW3, hG3, hk3, hk3'⟩)
        · have HE := Lib.hid (And.intro hbad hk3)
          clear hbad hk3
          go_wp2_with fail
          go_ret
          exact .inl ⟨k, rfl, HE.out.1, HE.out.2⟩
        · have hb3 := (hk3'.block _ (Array.getElem?_eq_some_iff.1 HW.out.2.2.1).1 (fun e => by have h1 := (Array.getElem?_eq_some_iff.1 H.out.1.pl.1).1; have h2 := H.out.1.tr.lt; have h3 := H.out.1.pl.2.2.lt; omega)).trans HW.out.2.2.1
          clear y0 y1 y2 y3 yf
          obtain ⟨y0, y1, y2, y3, yf⟩ := vfour_facts hb3
          have H3 := Lib.hid (And.intro hW3 (And.intro hG3 hk3))
          have hgo := goal_any x w3
          rw [HW.out.2.2.2, HQ.out.1] at hgo
          have HG := Lib.hid hgo
          clear hW3 hG3 hk3 hk3' hb3 hgo
          go_wp2_with fail
          refine HG.out.mono ?_
          rintro e w4 ⟨rfl, hk4⟩
          have H4 := Lib.hid hk4
          clear hk4 y0 y1 y2 y3 yf
          go_wp2_with fail
          refine (reach_step (x := x) (i := i) (t := t) (H3.out.1.kp H4.out) H3.out.2.1 (q := q) (u := t) HQ.out.2 hl8 (by omega) (by omega) HV.out (r := []) rfl (H3.out.2.2.trans' (H4.out.mono fun _ _ e => e.elim))).mono ?_
          rintro e w5 (⟨k, rfl, hbad, hk5⟩ | ⟨rfl, ts5, pend5, g5, cap5, hW5, hG5, hk5, -⟩)
          · have HE := Lib.hid (And.intro hbad hk5)
            clear hbad hk5
            go_wp2_with fail
            go_ret
            exact .inl ⟨k, rfl, HE.out.1, HE.out.2⟩
          · have HE := Lib.hid (And.intro hW5 (And.intro hG5 hk5))
            clear hW5 hG5 hk5
            go_wp2_with fail
            go_ret
            exact .inr ⟨rfl, _, ts5, pend5, _, _, HV.out, HE.out.1, HE.out.2.1, HE.out.2.2⟩
    by_cases c5 : op = 4 ∨ op = 20 ∨ op = 21
    · have hv : vsteps x i t = some [(vgoal x, t)] := by simp only [vsteps, HW.out.2.2.2]; rw [if_neg c1, if_neg c2, if_neg c3, if_neg c4, if_pos c5]
      obtain ⟨q, hq, hq2⟩ : ∃ q : Nat, vgoal x = q ∧ q ≤ code.length := by
        obtain ⟨h1, h2⟩ := H.out.2.2.2.2.1 _ (vgoal x) t hv (by simp)
        exact ⟨(vgoal x).toNat, by omega, by omega⟩
      have HQ := Lib.hid (And.intro hq hq2)
      rw [hq] at hv
      have HV := Lib.hid hv
      clear hv hq hq2
      clear c1 c2 c3 c4
      rcases c5 with rfl | rfl | rfl
      all_goals
        go_wp2_with fail
        have hgo := goal_any x wc
        rw [HW.out.2.2.2, HQ.out.1] at hgo
        refine hgo.mono ?_
        rintro e w4 ⟨rfl, hk4⟩
        have H4 := Lib.hid hk4
        clear hk4 y0 y1 y2 y3 yf hgo
        go_wp2_with fail
        refine (reach_step (x := x) (i := i) (t := t) (HW.out.1.kp H4.out) (Grows.refl ts pend) (q := q) (u := t) HQ.out.2 hl8 (by omega) (by omega) HV.out (r := []) rfl (HW.out.2.1.trans' (H4.out.mono fun _ _ e => e.elim))).mono ?_
        rintro e w5 (⟨k, rfl, hbad, hk5⟩ | ⟨rfl, ts5, pend5, g5, cap5, hW5, hG5, hk5, -⟩)
        · have HE := Lib.hid (And.intro hbad hk5)
          clear hbad hk5
          go_wp2_with fail
          go_ret
          exact .inl ⟨k, rfl, HE.out.1, HE.out.2⟩
        · have HE := Lib.hid (And.intro hW5 (And.intro hG5 hk5))
          clear hW5 hG5 hk5
          go_wp2_with fail
          go_ret
          exact .inr ⟨rfl, _, ts5, pend5, _, _, HV.out, HE.out.1, HE.out.2.1, HE.out.2.2⟩
    by_cases c6 : op = 25
    · by_cases htt : t = 0
      · have hv : vsteps x i t = none := by simp only [vsteps, HW.out.2.2.2]; rw [if_neg c1, if_neg c2, if_neg c3, if_neg c4, if_neg c5, if_pos c6, if_pos htt]
        have HV := Lib.hid hv
        clear hv c1 c2 c3 c4 c5
        subst c6
        go_wp2_with fail
        go_ret
        exact .inl ⟨14, rfl, .inl ⟨rfl, HV.out⟩, HW.out.2.1⟩
      · have hv : vsteps x i t = some [(((i + 1 : Nat) : Int), t - 1)] := by simp only [vsteps, HW.out.2.2.2]; rw [if_neg c1, if_neg c2, if_neg c3, if_neg c4, if_neg c5, if_pos c6, if_neg htt]
        have HV := Lib.hid hv
        clear hv c1 c2 c3 c4 c5
        subst c6
        go_wp2_with fail
        rw [show (i : Int) + 1 = ((i + 1 : Nat) : Int) from by omega]
        refine (reach_step (x := x) (i := i) (t := t) HW.out.1 (Grows.refl ts pend) (q := i + 1) (u := t - 1) (by omega) hl8 (by omega) (by omega) HV.out (r := []) rfl HW.out.2.1).mono ?_
        rintro e w5 (⟨k, rfl, hbad, hk5⟩ | ⟨rfl, ts5, pend5, g5, cap5, hW5, hG5, hk5, -⟩)
        · have HE := Lib.hid (And.intro hbad hk5)
          clear hbad hk5
          go_wp2_with fail
          go_ret
          exact .inl ⟨k, rfl, HE.out.1, HE.out.2⟩
        · have HE := Lib.hid (And.intro hW5 (And.intro hG5 hk5))
          clear hW5 hG5 hk5
          go_wp2_with fail
          go_ret
          exact .inr ⟨rfl, _, ts5, pend5, _, _, HV.out, HE.out.1, HE.out.2.1, HE.out.2.2⟩
    have hv : vsteps x i t = some [(((i + 1 : Nat) : Int), t)] := by simp only [vsteps, HW.out.2.2.2]; rw [if_neg c1, if_neg c2, if_neg c3, if_neg c4, if_neg c5, if_neg c6]
    have HV := Lib.hid hv
    have a15 : ¬ op = 15 := fun e => c1 (.inl e)
    have a14 : ¬ op = 14 := fun e => c1 (.inr e)
    have a26 : ¬ op = 26 := fun e => c2 (.inl e)
    have a27 : ¬ op = 27 := fun e => c2 (.inr e)
    have a5 : ¬ op = 5 := fun e => c4 (.inl e)
    have a6 : ¬ op = 6 := fun e => c4 (.inr (.inl e))
    have a7 : ¬ op = 7 := fun e => c4 (.inr (.inr (.inl e)))
    have a8 : ¬ op = 8 := fun e => c4 (.inr (.inr (.inr (.inl e))))
    have a18 : ¬ op = 18 := fun e => c4 (.inr (.inr (.inr (.inr (.inl e)))))
    have a22 : ¬ op = 22 := fun e => c4 (.inr (.inr (.inr (.inr (.inr e)))))
    have a4 : ¬ op = 4 := fun e => c5 (.inl e)
    have a20 : ¬ op = 20 := fun e => c5 (.inr (.inl e))
    have a21 : ¬ op = 21 := fun e => c5 (.inr (.inr e))
    clear hv c1 c2 c4 c5
    go_wp2_with fail
    rw [show (i : Int) + 1 = ((i + 1 : Nat) : Int) from by omega]
    refine (reach_step (x := x) (i := i) (t := t) HW.out.1 (Grows.refl ts pend) (q := i + 1) (u := t) (by omega) hl8 (by omega) (by omega) HV.out (r := []) rfl HW.out.2.1).mono ?_
    rintro e w5 (⟨k, rfl, hbad, hk5⟩ | ⟨rfl, ts5, pend5, g5, cap5, hW5, hG5, hk5, -⟩)
    · have HE := Lib.hid (And.intro hbad hk5)
      clear hbad hk5
      go_wp2_with fail
      go_ret
      exact .inl ⟨k, rfl, HE.out.1, HE.out.2⟩
    · have HE := Lib.hid (And.intro hW5 (And.intro hG5 hk5))
      clear hW5 hG5 hk5
      go_wp2_with fail
      go_ret
      exact .inr ⟨rfl, _, ts5, pend5, _, _, HV.out, HE.out.1, HE.out.2.1, HE.out.2.2⟩
end Go.Proofs.YtpdepmkojbpklaaDoor
