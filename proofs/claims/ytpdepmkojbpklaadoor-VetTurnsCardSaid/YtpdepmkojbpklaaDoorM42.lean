/- The reference's walk through a function's instructions. -/
import Derived.Test.YtpdepmkojbpklaaDoorM33
/- The reference's walk through a function's instructions. -/
namespace Go.Proofs.YtpdepmkojbpklaaDoor
open Go.RowKit

theorem Tryd.infoBool : (Tryd.prog.info? 4).map (fun i => (i.zero, i.size, i.bytes)) = some (some (.bool false), 1, 1) := by kernel_rfl
/-- what the reference tells -/
def RwPost (w : World) (code : List In4) (e : Ending) (w' : World) : Prop :=
  (∃ tg tc ts, e = .returned (.tuple #[.slice (some ⟨tg, 0, none⟩) code.length tc, .int .i64 0, .int .i64 0]) ∧ Ir w' tg tc ts ∧ w.heap.size ≤ tg ∧ LRun code ts [] ∧ Kp (fun _ => False) w w') ∨
  (∃ (p : Nat) (t k : Int), e = .returned (.tuple #[.slice none 0 0, .int .i64 p, .int .i64 k]) ∧ LeastBad code p t k ∧ Kp (fun _ => False) w w')

/-- the state of the walk: the tries lie in T, what is done in D, behind B -/
structure RwSt (w0 w : World) (T D : Nat) (code : List In4) (ts pend : List Int) (done : List Bool) : Prop where
  st : RefSt code ts pend done
  tr : Ir w T code.length ts
  dn : Br w D done
  kp : Kp (fun q => q = T ∨ q = D) w0 w
theorem rwst_set {w0 w : World} {T D : Nat} {code : List In4} {ts pend ts2 pend2 : List Int} {done done2 : List Bool} (h : RwSt w0 w T D code ts pend done) {w' : World} (hs : RefSt code ts2 pend2 done2) (ht : Ir w' T code.length ts2) (hd : Br w' D done2) (hk : Kp (fun q => q = T ∨ q = D) w w') : RwSt w0 w' T D code ts2 pend2 done2 :=
  ⟨hs, ht, hd, h.kp.trans' hk⟩

set_option maxRecDepth 100000 in
set_option maxHeartbeats 16000000 in
theorem rwalk_any {F : Nat → Prop} {w : World} {code : List In4} {po : Option Addr} {cc : Nat} (nm : ByteArray) (ar sl : Int) (hco : CodeAt F w code (.slice po code.length cc)) (hF : ∀ q, F q → q < w.heap.size) (h1 : 1 ≤ code.length) (h2 : code.length ≤ 800000) (hcc : code.length ≤ cc) (hlab : LabOk code) (hin : ∀ (i : Nat) (x : In4), code[i]? = some x → (rlab x).1 < code.length) :
    Calls Tryd.prog 33 #[.agg #[.string nm, .int .i64 ar, .int .i64 sl, .slice po code.length cc]] w (RwPost w code) := by
  obtain ⟨i0, hi, hz0, hz1, hz2⟩ := info_parts Tryd.infoIntV
  obtain ⟨j0, hj, hw0, hw1, hw2⟩ := info_parts Tryd.infoBool
  obtain ⟨n, hn⟩ : ∃ n, code.length = n := ⟨_, rfl⟩
  rw [hn] at hco h1 h2 hcc hin ⊢
  have hmk : ∀ u : World, (Instr.makeSlice 45 (.int .i64 (n : Int)) (.int .i64 (n : Int))).run Tryd.prog u = .ok (.slice (some ⟨u.heap.size, 0, none⟩) n n) (u.alloc (.cells (madeCells #[.int .i64 0] n) 3)) := fun u => by
    have h := run_make (P := Tryd.prog) u 45 3 i0 (.int .i64 0) Tryd.underlying45 hi hz0 .i64 .i64 (n : Int) (n : Int) (by omega) (Int.le_refl _) (by rw [hz2]; omega) (by omega)
    rw [hz1] at h
    simpa [Value.cells] using h
  have hmb : ∀ u : World, (Instr.makeSlice 106 (.int .i64 (n : Int)) (.int .i64 (n : Int))).run Tryd.prog u = .ok (.slice (some ⟨u.heap.size, 0, none⟩) n n) (u.alloc (.cells (madeCells #[.bool false] n) 4)) := fun u => by
    have h := run_make (P := Tryd.prog) u 106 4 j0 (.bool false) Tryd.underlying106 hj hw0 .i64 .i64 (n : Int) (n : Int) (by omega) (Int.le_refl _) (by rw [hw2]; omega) (by omega)
    rw [hw1] at h
    simpa [Value.cells] using h
  obtain ⟨w3, hw3⟩ : ∃ w3, ((w.alloc (.cells #[.string nm, .int .i64 ar, .int .i64 sl, .slice po n cc] 32)).alloc (.cells (madeCells #[.int .i64 0] n) 3)).alloc (.cells (madeCells #[.bool false] n) 4) = w3 := ⟨_, rfl⟩
  have hk3 : Kp (fun _ => False) w w3 := by rw [← hw3]; exact (((Kp.refl _ w).alloc _).alloc _).alloc _
  have hz3 : w3.heap.size = w.heap.size + 3 := by rw [← hw3]; simp
  have b0 : w3.heap[w.heap.size]? = some (.cells #[.string nm, .int .i64 ar, .int .i64 sl, .slice po n cc] 32 (0, 0)) := by
    rw [← hw3, Below.heap_alloc _ _ _ (by simp; omega), Below.heap_alloc _ _ _ (by simp)]; exact heap_alloc_new w _
  have b1 : w3.heap[w.heap.size + 1]? = some (.cells (madeCells #[.int .i64 0] n) 3 (0, 0)) := by
    rw [← hw3, Below.heap_alloc _ _ _ (by simp)]
    have := heap_alloc_new (w.alloc (.cells #[.string nm, .int .i64 ar, .int .i64 sl, .slice po n cc] 32)) (.cells (madeCells #[.int .i64 0] n) 3)
    simpa using this
  have b2 : w3.heap[w.heap.size + 1 + 1]? = some (.cells (madeCells #[.bool false] n) 4 (0, 0)) := by
    rw [← hw3]
    have := heap_alloc_new ((w.alloc (.cells #[.string nm, .int .i64 ar, .int .i64 sl, .slice po n cc] 32)).alloc (.cells (madeCells #[.int .i64 0] n) 3)) (.cells (madeCells #[.bool false] n) 4)
    simpa using this
  have hI0 : Ir w3 (w.heap.size + 1) n (List.replicate n 0) := ⟨_, b1, by simp [size_madeCells], by simp, by unfold maxLen; omega, by rw [toList_madeCells_one]; simp⟩
  have hD0 : Br w3 (w.heap.size + 1 + 1) (List.replicate n false) := by
    unfold Br
    rw [b2]
    congr 2
    apply Array.ext'
    rw [toList_madeCells_one]; simp
  have H := Lib.hid (And.intro hco (And.intro hF (And.intro hn (And.intro h1 (And.intro h2 (And.intro hlab hin))))))
  have H3 := Lib.hid (And.intro hk3 (And.intro hz3 (And.intro b0 (And.intro hI0 hD0))))
  have c3 : w3.cell? ⟨w.heap.size, 3, none⟩ = some (.slice po n cc) := by rw [cell_of_row w3 _ 3 _ _ _ b0]; rfl
  have hn2 : (n : Int) ≤ 800000 := by omega
  have hn1' : (1 : Int) ≤ n := by omega
  have hcci : (n : Int) ≤ cc := by omega
  have HW := Lib.hid hw3
  clear hco hF hn h1 hlab hin hi hz0 hz1 hz2 hj hw0 hw1 hw2 hk3 hz3 b0 b1 b2 hI0 hD0 hw3
  go_enter Tryd.func33, Tryd.ntmps33
  go_upto_region 3 with fail
  rw [HW.out]
  clear hmk hmb HW
  go_wp2_with fail
  go_loopg [7] n (fun gk s7 wr => ∃ (j : Nat) (ts : List Int), j ≤ n ∧ gk = n - j ∧ s7 = .int .i64 j ∧ ts.length = n ∧ (∀ i, i < j → ts[i]? = some (-1)) ∧ Ir wr (w.heap.size + 1) n ts ∧ Kp (fun q => q = w.heap.size + 1) w3 wr)
  case atStart => exact ⟨0, List.replicate n 0, by omega, rfl, rfl, by simp, fun i hi => absurd hi (Nat.not_lt_zero i), H3.out.2.2.2.1, Kp.refl _ _⟩
  case round =>
    obtain ⟨j, ts, hj, hgk, rfl, hl, hmm, hI, hk⟩ := hrel
    by_cases hlt : j < n
    · obtain ⟨u, hu⟩ : ∃ u, ts[j]? = some u := ⟨_, List.getElem?_eq_getElem (by omega)⟩
      obtain ⟨cu, fu⟩ := hI.cell hu
      have hjn : (j : Int) < n := by omega
      have HJ := Lib.hid (And.intro hI (And.intro hk (And.intro hl (And.intro hmm hu))))
      clear hI hk hl hmm hu
      go_wp2_with fail
      go_roundg (n - (j + 1))
      case measure => omega
      case rel =>
        have hlt' := (List.getElem?_eq_some_iff.1 HJ.out.2.2.2.2).1
        exact ⟨j + 1, ts.set j (-1), by omega, rfl, by go_num, by rw [List.length_set]; exact HJ.out.2.2.1, fun i hi => by
          by_cases e : j = i
          · subst e; exact List.getElem?_set_self hlt'
          · rw [List.getElem?_set_ne e]; exact HJ.out.2.2.2.1 i (by omega), HJ.out.1.set _ _, HJ.out.2.1.trans' ((Kp.refl (fun q => q = w.heap.size + 1) wr).setCell _ _ (.inl rfl))⟩
    · obtain rfl : j = n := by omega
      obtain ⟨u, hu⟩ : ∃ u, ts[0]? = some u := ⟨_, List.getElem?_eq_getElem (by omega)⟩
      obtain ⟨cu, fu⟩ := hI.cell hu
      obtain ⟨ts0, hts0⟩ : ∃ ts0, ts.set 0 0 = ts0 := ⟨_, rfl⟩
      obtain ⟨w4, hw4⟩ : ∃ w4, wr.setCell ⟨w.heap.size + 1, 0, none⟩ (.int .i64 0) = w4 := ⟨_, rfl⟩
      have hst : RwSt w3 w4 (w.heap.size + 1) (w.heap.size + 1 + 1) code ts0 [0] (List.replicate j false) := by
        have hz3 := H3.out.2.1
        have hcl := H.out.2.2.1
        refine ⟨?_, ?_, ?_, ?_⟩
        · rw [← hcl]
          refine RefSt.start (by omega) (by rw [← hts0, List.length_set, hl, hcl]) ?_ (fun i i1 i2 => ?_)
          · rw [← hts0]; exact List.getElem?_set_self (by omega)
          · rw [← hts0, List.getElem?_set_ne (by omega)]
            exact hmm i (by omega)
        · rw [hcl, ← hw4, ← hts0]; exact hI.set 0 0
        · rw [← hw4]
          exact (H3.out.2.2.2.2.kp hk (by omega)).kp ((Kp.refl (fun q => q = w.heap.size + 1) wr).setCell _ _ (.inl rfl)) (by omega)
        · rw [← hw4]
          exact (hk.mono fun q _ e => .inl e).trans' ((Kp.refl (fun q => q = w.heap.size + 1 ∨ q = w.heap.size + 1 + 1) wr).setCell _ _ (.inl (.inl rfl)))
      have HS := Lib.hid hst
      have HW4 := Lib.hid hw4
      clear hI hk hl hmm hu hts0 hw4 hst hlt hj
      go_wp2_with fail
      rw [HW4.out]
      clear HW4
      have hjd : cf (List.replicate j false) = cf (List.replicate j false) := rfl
      go_loopg [8, 9, 10, 11, 12, 13, 14, 15] (cf (List.replicate j false)) (fun gk s8 s9 s10 s11 s12 s13 s14 s15 wq => ∃ (wz : World) (ts pend : List Int) (done : List Bool), wz = wq ∧ gk = cf done ∧ RwSt w3 wz (w.heap.size + 1) (w.heap.size + 1 + 1) code ts pend done)
      case atStart => exact ⟨_, ts0, [0], _, rfl, rfl, HS.out⟩
      case round =>
        obtain ⟨wz, ts, pend, done, hwz, hgk, hst⟩ := hrel
        subst hwz
        clear HS hjd
        have hcl := H.out.2.2.1
        have htl : ts.length = j := by rw [hst.st.run.st.len, hcl]
        have hdl : done.length = j := by rw [hst.st.dl, hcl]
        have HS := Lib.hid hst
        have HL := Lib.hid (And.intro htl (And.intro hdl hgk))
        clear hst htl hdl hcl hgk
        go_wp2_with fail
        go_loopg [8, 9] j (fun gk s8 s9 wy => ∃ (k : Nat) (v a : Int), wy = wz ∧ k ≤ j ∧ gk = k ∧ s9 = .int .i64 v ∧ v + 1 = k ∧ s8 = .int .i64 a ∧ (a = -1 ∧ (∀ i, k ≤ i → ¬ Pn ts done i) ∨ ∃ b : Nat, a = b ∧ k ≤ b ∧ Pn ts done b ∧ ∀ i, k ≤ i → i < b → ¬ Pn ts done i))
        case atStart => exact ⟨j, _, -1, rfl, Nat.le_refl _, rfl, rfl, by omega, rfl, .inl ⟨rfl, fun i hi ⟨⟨u, e, _⟩, _⟩ => by have := (List.getElem?_eq_some_iff.1 e).1; have := HL.out.1; omega⟩⟩
        case round =>
          obtain ⟨k, v, a, rfl, hk, hgk, rfl, hv, rfl, ha⟩ := hrel
          by_cases hk0 : k = 0
          · subst hk0
            obtain rfl : v = -1 := by omega
            rcases ha with ⟨rfl, hno⟩ | ⟨b, rfl, -, hb, hlo⟩
            · have hfin : LRun code ts [] := HS.out.st.finished fun i _ e => hno i (Nat.zero_le _) e
              have HF := Lib.hid hfin
              clear hno hfin hv hk
              go_wp2_with fail
              go_ret3
              exact .inl ⟨w.heap.size + 1, j, ts, by rw [H.out.2.2.1]; rfl, by have := HS.out.tr; rw [H.out.2.2.1] at this; exact this, by omega, HF.out, (H3.out.1.trans (HS.out.kp.mono fun q hq e => .inr ⟨by have := H3.out.2.1; rcases e with e | e <;> omega, hq⟩))⟩
            · skip
              obtain ⟨⟨u, hu, hu1⟩, hd⟩ := hb
              have hcl := H.out.2.2.1
              have hbj : b < j := by have := (List.getElem?_eq_some_iff.1 hu).1; have := HL.out.1; omega
              obtain ⟨x, hx⟩ : ∃ x, code[b]? = some x := ⟨code[b]'(by omega), List.getElem?_eq_getElem _⟩
              have hub := HS.out.st.run.bd b u hu hu1
              have hlo' : ∀ i : Nat, i < b → ¬ Pn ts done i := fun i hi => hlo i (Nat.zero_le _) hi
              have hgo := HS.out.st.go H.out.2.2.2.2.2.1 hu hu1 hd hlo' hx
              have hnone := HS.out.st.none hu hu1 hd hlo' hx
              have hlin := H.out.2.2.2.2.2.2 b x hx
              obtain ⟨cd, fd⟩ := HS.out.dn.cell hd
              obtain ⟨w5, hw5⟩ : ∃ w5, wr.setCell ⟨w.heap.size + 1 + 1, b, none⟩ (.bool true) = w5 := ⟨_, rfl⟩
              have htr5 : Ir w5 (w.heap.size + 1) j ts := by
                have := HS.out.tr
                rw [hcl] at this
                rw [← hw5]
                exact this.kp ((Kp.refl (fun q => q = w.heap.size + 1 + 1) wr).setCell _ _ (.inl rfl)) (by omega)
              have hdn5 : Br w5 (w.heap.size + 1 + 1) (done.set b true) := by rw [← hw5]; exact HS.out.dn.set b true
              have hkp5 : Kp (fun q => q = w.heap.size + 1 ∨ q = w.heap.size + 1 + 1) w3 w5 := by
                rw [← hw5]; exact HS.out.kp.setCell ⟨w.heap.size + 1 + 1, b, none⟩ _ (.inl (.inr rfl))
              have hcf := cf_set hd
              obtain ⟨op, xa, xb, xc⟩ := x
              obtain ⟨po', cc', e', k1, k2, k3⟩ := id H.out.1
              have hpo : po' = po := by injection e' with e'; exact e'.symm
              subst hpo
              obtain ⟨xbk, xof, rfl, hxF, x0, x1, x2, x3, hxw⟩ := k3 b ⟨op, xa, xb, xc⟩ hx
              have hkw : Kp (fun q => w.heap.size ≤ q) w w5 := (H3.out.1.mono fun _ _ e => e.elim).trans' (hkp5.mono fun q _ e => by rcases e with e | e <;> omega)
              have hxlt := H.out.2.1 _ hxF
              have y0 : w5.cell? ⟨xbk, xof + b * 4, none⟩ = some (.int .i64 op) := (hkw.cell (p := ⟨xbk, xof + b * 4, none⟩) hxlt (fun e => by have : w.heap.size ≤ xbk := e; omega)).trans x0
              have y1 : w5.cell? ⟨xbk, xof + b * 4 + 1, none⟩ = some (.int .i64 xa) := (hkw.cell (p := ⟨xbk, xof + b * 4 + 1, none⟩) hxlt (fun e => by have : w.heap.size ≤ xbk := e; omega)).trans x1
              have y2 : w5.cell? ⟨xbk, xof + b * 4 + 2, none⟩ = some (.int .i64 xb) := (hkw.cell (p := ⟨xbk, xof + b * 4 + 2, none⟩) hxlt (fun e => by have : w.heap.size ≤ xbk := e; omega)).trans x2
              have y3 : w5.cell? ⟨xbk, xof + b * 4 + 3, none⟩ = some (.int .i64 xc) := (hkw.cell (p := ⟨xbk, xof + b * 4 + 3, none⟩) hxlt (fun e => by have : w.heap.size ≤ xbk := e; omega)).trans x3
              have d3 : w5.cell? ⟨w.heap.size, 3, none⟩ = some (.slice (some ⟨xbk, xof, none⟩) j cc) := by
                rw [hkp5.cell (p := ⟨w.heap.size, 3, none⟩) (show w.heap.size < w3.heap.size from by have := H3.out.2.1; omega) (fun e => e.elim (fun e => absurd (show w.heap.size = w.heap.size + 1 from e) (by omega)) (fun e => absurd (show w.heap.size = w.heap.size + 1 + 1 from e) (by omega)))]
                exact c3
              obtain ⟨cu, fu⟩ := htr5.cell hu
              obtain ⟨w6, hw6⟩ : ∃ w6, w5.alloc (.cells #[.int .i64 op, .int .i64 xa, .int .i64 xb, .int .i64 xc] 29) = w6 := ⟨_, rfl⟩
              have hk6 : Kp (fun _ => False) w5 w6 := by rw [← hw6]; exact (Kp.refl _ w5).alloc _
              have hb6 : w6.heap[w5.heap.size]? = some (.cells #[.int .i64 op, .int .i64 xa, .int .i64 xb, .int .i64 xc] 29 (0, 0)) := by rw [← hw6]; exact heap_alloc_new w5 _
              have z0 : w6.cell? ⟨w5.heap.size, 0, none⟩ = some (.int .i64 op) := by rw [cell_of_row w6 _ 0 _ _ _ hb6]; rfl
              have z1 : w6.cell? ⟨w5.heap.size, 1, none⟩ = some (.int .i64 xa) := by rw [cell_of_row w6 _ 1 _ _ _ hb6]; rfl
              have z2 : w6.cell? ⟨w5.heap.size, 2, none⟩ = some (.int .i64 xb) := by rw [cell_of_row w6 _ 2 _ _ _ hb6]; rfl
              have z3 : w6.cell? ⟨w5.heap.size, 3, none⟩ = some (.int .i64 xc) := by rw [cell_of_row w6 _ 3 _ _ _ hb6]; rfl
              have cu6 := (hk6.cell (World.block_lt_of_cell? _ _ cu) (fun e => e)).trans cu
              have htr6 := htr5.kp hk6 (fun e => e)
              have hdn6 := hdn5.kp hk6 (fun e => e)
              have hkp6 : Kp (fun q => q = w.heap.size + 1 ∨ q = w.heap.size + 1 + 1) w3 w6 := hkp5.trans' (hk6.mono fun _ _ e => e.elim)
              have d36 := (hk6.cell (World.block_lt_of_cell? _ _ d3) (fun e => e)).trans d3
              have hbi : (b : Int) < j := by omega
              have hb0 : ¬ ((b : Int) < 0) := by omega
              have HG := Lib.hid (And.intro hgo hnone)
              have HT := Lib.hid (And.intro htr6 (And.intro hdn6 (And.intro hkp6 hcf)))
              have HU := Lib.hid (And.intro hu hu1)
              have HLI := Lib.hid hlin
              have HW5 := Lib.hid hw5
              have HW6 := Lib.hid hw6
              have hub0 := hub.1
              have hub8 := hub.2
              clear hgo hnone htr6 hdn6 hkp6 hcf hu hu1 hd hlo hlo' hx hub hlin hw5 hw6 htr5 hdn5 hkp5 hkw hk6 hb6 x0 x1 x2 x3 hxw hxF k3 k1 k2 e' hcl
              go_upto_region 17 with fail
              rw [HW5.out]
              go_upto_region 18 with fail
              rw [HW6.out]
              clear HW5 HW6 y0 y1 y2 y3 d3 fd cu cd
              by_cases hc : rcond ⟨op, xa, xb, xc⟩ u
              · have HLB := Lib.hid (HG.out.2 hc)
                rcases hc with ⟨h25, hu0⟩ | ⟨h15 | h15, hu0⟩
                · have hop := (show op = 25 from h25)
                  subst hop
                  go_wp2_with fail
                  go_ret3
                  exact .inr ⟨b, u, 14, rfl, HLB.out, (H3.out.1.trans (HT.out.2.2.1.mono fun q hq e => .inr ⟨by have := H3.out.2.1; rcases e with e | e <;> omega, hq⟩))⟩
                · have hop := (show op = 15 from h15)
                  subst hop
                  go_wp2_with fail
                  go_ret3
                  exact .inr ⟨b, u, 14, rfl, HLB.out, (H3.out.1.trans (HT.out.2.2.1.mono fun q hq e => .inr ⟨by have := H3.out.2.1; rcases e with e | e <;> omega, hq⟩))⟩
                · have hop := (show op = 14 from h15)
                  subst hop
                  go_wp2_with fail
                  go_ret3
                  exact .inr ⟨b, u, 14, rfl, HLB.out, (H3.out.1.trans (HT.out.2.2.1.mono fun q hq e => .inr ⟨by have := H3.out.2.1; rcases e with e | e <;> omega, hq⟩))⟩
              · have hgo2 := HG.out.1 hc
                have HE := Lib.hid hgo2.1
                have HO := Lib.hid hgo2.2
                have HC := Lib.hid hc
                clear hgo2 hc
                go_upto_region 19 with fail
                go_cut [90] (fun s wx => s = .bool false ∧ wx = w6)
                case first =>
                  by_cases h25 : op = 25
                  · subst h25
                    have hu0 : ¬ (u < 1) := fun e => HC.out (.inl ⟨rfl, e⟩)
                    go_wp2_with fail
                    go_meet
                    exact ⟨rfl, rfl⟩
                  · by_cases h15 : op = 15
                    · subst h15
                      obtain rfl : u = 0 := by
                        by_cases hu0 : u = 0
                        · exact hu0
                        · exact absurd (.inr ⟨.inl rfl, hu0⟩) HC.out
                      go_wp2_with fail
                      go_meet
                      exact ⟨rfl, rfl⟩
                    · by_cases h14 : op = 14
                      · subst h14
                        obtain rfl : u = 0 := by
                          by_cases hu0 : u = 0
                          · exact hu0
                          · exact absurd (.inr ⟨.inr rfl, hu0⟩) HC.out
                        go_wp2_with fail
                        go_meet
                        exact ⟨rfl, rfl⟩
                      · go_wp2_with fail
                        go_meet
                        exact ⟨rfl, rfl⟩
                case rest =>
                  obtain ⟨rfl, hwc⟩ := hcut
                  subst hwc
                  obtain ⟨lb, nx, hlab2⟩ : ∃ lb nx, rlab ⟨op, xa, xb, xc⟩ = (lb, nx) := ⟨_, _, rfl⟩
                  obtain ⟨bh, hbh⟩ : ∃ bh, rbehind ⟨op, xa, xb, xc⟩ u = bh := ⟨_, rfl⟩
                  have hrs := rs_of (p := b) (t := u) hlab2 hbh
                  have hlin : lb < j := by have := HLI.out; rw [hlab2] at this; exact this
                  have hbp : 0 ≤ bh := by
                    rw [← hbh]
                    unfold rbehind
                    have hcc := HC.out
                    unfold rcond at hcc
                    simp only at hcc ⊢
                    split
                    · have : ¬ (u < 1) := fun e => hcc (.inl ⟨by assumption, e⟩)
                      omega
                    · split <;> omega
                  have hbq : bh ≤ 9 := by
                    rw [← hbh]
                    unfold rbehind
                    split
                    · omega
                    · split <;> omega
                  have hRL := rlabels_any ⟨op, xa, xb, xc⟩ wc
                  rw [hlab2] at hRL
                  have HRL := Lib.hid hRL
                  have HLI2 := Lib.hid hlin
                  have HRS := Lib.hid hrs
                  have HBH := Lib.hid hbh
                  clear hRL hlab2 hbh hlin hrs
                  go_wp2_with fail
                  refine HRL.out.mono ?_
                  rintro e w7 ⟨rfl, hk7⟩
                  have d37 := (hk7.cell (World.block_lt_of_cell? _ _ d36) (fun e => e)).trans d36
                  have z07 := (hk7.cell (World.block_lt_of_cell? _ _ z0) (fun e => e)).trans z0
                  have hir := HT.out.1.kp hk7 (fun e => e)
                  have hbr := HT.out.2.1.kp hk7 (fun e => e)
                  have hkp7 : Kp (fun q => q = w.heap.size + 1 ∨ q = w.heap.size + 1 + 1) w3 w7 := HT.out.2.2.1.trans' (hk7.mono fun _ _ e => e.elim)
                  have HX7 := Lib.hid (And.intro hir (And.intro hbr hkp7))
                  clear hk7 z0 z1 z2 z3 d36 cu6 HRL hir hbr hkp7
                  have irlen := HL.out.1
                  have irbd := fun i v e e2 => (HS.out.st.run.bd i v e e2).1
                  go_upto_if 101 with fail
                  obtain ⟨b1, hb1⟩ : ∃ b1, (if op = 25 then u - 1 else u) = b1 := ⟨_, rfl⟩
                  have hbh2 : bh = (if op = 24 then b1 + 1 else b1) := by
                    rw [← HBH.out, ← hb1]
                    unfold rbehind
                    simp only
                    by_cases h25 : op = 25
                    · rw [if_pos h25, if_pos h25, if_neg (by omega)]
                    · rw [if_neg h25, if_neg h25]
                  have HB1 := Lib.hid (And.intro hb1 hbh2)
                  clear hb1 hbh2
                  go_cut [14] (fun s wx => s = .int .i64 b1 ∧ wx = w7)
                  case first =>
                    by_cases h25 : op = 25
                    · have hb1 := HB1.out.1
                      rw [if_pos h25] at hb1
                      have HB2 := Lib.hid hb1
                      clear hb1
                      subst h25
                      go_wp2_with fail
                      go_meet
                      exact ⟨by rw [HB2.out], rfl⟩
                    · have hb1 := HB1.out.1
                      rw [if_neg h25] at hb1
                      have HB2 := Lib.hid hb1
                      clear hb1
                      go_wp2_with fail
                      go_meet
                      exact ⟨by rw [HB2.out], rfl⟩
                  case rest =>
                    obtain ⟨rfl, hwc⟩ := hcut
                    subst hwc
                    go_upto_if 106 with fail
                    go_cut [14] (fun s wx => s = .int .i64 bh ∧ wx = wc)
                    case first =>
                      by_cases h24 : op = 24
                      · have hb2 := HB1.out.2
                        rw [if_pos h24] at hb2
                        have HB2 := Lib.hid hb2
                        have hwr : IntKind.i64.wrap (b1 + 1) = b1 + 1 := IntWalk.i64_in _ (by omega)
                        clear hb2
                        subst h24
                        go_wp2_with fail
                        go_meet
                        exact ⟨by rw [HB2.out], rfl⟩
                      · have hb2 := HB1.out.2
                        rw [if_neg h24] at hb2
                        have HB2 := Lib.hid hb2
                        clear hb2
                        go_wp2_with fail
                        go_meet
                        exact ⟨by rw [HB2.out], rfl⟩
                    case rest =>
                      obtain ⟨rfl, hwc⟩ := hcut
                      subst hwc
                      obtain ⟨hir, hbr, hkp7⟩ := HX7.out
                      cases nx with
                      | false =>
                        have hrs := HRS.out
                        rw [if_neg (by simp), List.nil_append] at hrs
                        have hR : rgo code.length (rs ⟨op, xa, xb, xc⟩ b u) ts (pend.erase (b : Int)) = rgo code.length (if 0 ≤ lb then [(lb, u)] else []) ts (pend.erase (b : Int)) := by rw [hrs]
                        have irir := hir
                        clear hrs hir
                        by_cases hlb : 0 ≤ lb
                        · obtain ⟨L, rfl⟩ : ∃ L : Nat, lb = L := ⟨lb.toNat, by omega⟩
                          have hLj : L < j := by have := HLI2.out; omega
                          have hLi : (L : Int) < j := by omega
                          rw [if_pos hlb] at hR
                          have hL2 : L < code.length := by rw [H.out.2.2.1]; exact hLj
                          obtain ⟨v2, hv2⟩ : ∃ v2, ts[L]? = some v2 := ⟨ts[L]'(by omega), List.getElem?_eq_getElem _⟩
                          obtain ⟨cv2, fv2⟩ := irir.cell hv2
                          by_cases h21 : v2 = -1
                          · have h2n : ¬ ((0 : Int) ≤ v2) := by omega
                            obtain ⟨pe2, he2⟩ := rgo_ok (s := []) (pend := pend.erase (b : Int)) hL2 hub8 (.inl (by rw [hv2, h21]))
                            have hfin := HO.out _ _ (hR.trans (he2.trans rgo_end))
                            clear he2
                            have HFN := Lib.hid (And.intro hfin (And.intro (irir.set L u) (And.intro (hbr.kp ((Kp.refl (fun q => q = w.heap.size + 1) wc).setCell ⟨w.heap.size + 1, L, none⟩ (.int .i64 u) (.inl rfl)) (by omega)) (hkp7.trans' ((Kp.refl (fun q => q = w.heap.size + 1 ∨ q = w.heap.size + 1 + 1) wc).setCell ⟨w.heap.size + 1, L, none⟩ (.int .i64 u) (.inl (.inl rfl)))))))
                            clear hfin hR
                            go_wp2_with fail
                            go_roundg (cf (done.set b true))
                            case measure => have := HT.out.2.2.2; have := HL.out.2.2; omega
                            case rel => exact ⟨_, _, _, done.set b true, rfl, rfl, ⟨HFN.out.1, by rw [H.out.2.2.1]; exact HFN.out.2.1, HFN.out.2.2.1, HFN.out.2.2.2⟩⟩
                          · have h2p : (0 : Int) ≤ v2 := irbd L v2 hv2 h21
                            by_cases h22 : v2 = u
                            · have h23 : (v2 == u) = true := by simpa using h22
                              obtain ⟨pe2, he2⟩ := rgo_ok (s := []) (pend := pend.erase (b : Int)) hL2 hub8 (.inr (by rw [hv2, h22]))
                              have hfin := HO.out _ _ (hR.trans (he2.trans rgo_end))
                              clear he2
                              have HFN := Lib.hid (And.intro hfin (And.intro (irir.set L u) (And.intro (hbr.kp ((Kp.refl (fun q => q = w.heap.size + 1) wc).setCell ⟨w.heap.size + 1, L, none⟩ (.int .i64 u) (.inl rfl)) (by omega)) (hkp7.trans' ((Kp.refl (fun q => q = w.heap.size + 1 ∨ q = w.heap.size + 1 + 1) wc).setCell ⟨w.heap.size + 1, L, none⟩ (.int .i64 u) (.inl (.inl rfl)))))))
                              clear hfin hR
                              go_wp2_with fail
                              go_roundg (cf (done.set b true))
                              case measure => have := HT.out.2.2.2; have := HL.out.2.2; omega
                              case rel => exact ⟨_, _, _, done.set b true, rfl, rfl, ⟨HFN.out.1, by rw [H.out.2.2.1]; exact HFN.out.2.1, HFN.out.2.2.1, HFN.out.2.2.2⟩⟩
                            · have h23 : (v2 == u) = false := by simpa using h22
                              have HLB := Lib.hid (HE.out 14 (hR.trans (rgo_bad hL2 (.inr ⟨fun e => h21 (Option.some.inj (hv2.symm.trans e)), fun e => h22 (Option.some.inj (hv2.symm.trans e))⟩))))
                              have HKR := Lib.hid (H3.out.1.trans (hkp7.mono fun q hq e => .inr ⟨by have := H3.out.2.1; rcases e with e | e <;> omega, hq⟩))
                              go_wp2_with fail
                              go_ret3
                              exact .inr ⟨b, u, 14, rfl, HLB.out, HKR.out⟩
                        · rw [if_neg hlb] at hR
                          have hfin := HO.out _ _ (hR.trans rgo_end)
                          have HFN := Lib.hid (And.intro hfin (And.intro (irir) (And.intro (hbr) (hkp7))))
                          clear hfin hR
                          go_wp2_with fail
                          go_roundg (cf (done.set b true))
                          case measure => have := HT.out.2.2.2; have := HL.out.2.2; omega
                          case rel => exact ⟨_, _, _, done.set b true, rfl, rfl, ⟨HFN.out.1, by rw [H.out.2.2.1]; exact HFN.out.2.1, HFN.out.2.2.1, HFN.out.2.2.2⟩⟩
                      | true =>
                        have hrs := HRS.out
                        rw [if_pos rfl, List.singleton_append] at hrs
                        by_cases hfar : j ≤ b + 1
                        · have hfi : (j : Int) ≤ (b : Int) + 1 := by omega
                          have HLB := Lib.hid (HE.out 13 (by rw [hrs]; exact rgo_far (by have := H.out.2.2.1; omega)))
                          have HKR := Lib.hid (H3.out.1.trans (hkp7.mono fun q hq e => .inr ⟨by have := H3.out.2.1; rcases e with e | e <;> omega, hq⟩))
                          go_wp2_with fail
                          go_ret3
                          exact .inr ⟨b, u, 13, rfl, HLB.out, HKR.out⟩
                        · have hfi : ¬ ((j : Int) ≤ (b : Int) + 1) := by omega
                          have hfi2 : (b : Int) + 1 < j := by omega
                          have hfi3 : ((b : Int) + 1).toNat = b + 1 := by omega
                          have hb1 : b + 1 < code.length := by have := H.out.2.2.1; omega
                          obtain ⟨v1, hv1⟩ : ∃ v1, ts[b + 1]? = some v1 := ⟨ts[b + 1]'(by omega), List.getElem?_eq_getElem _⟩
                          obtain ⟨cv1, fv1⟩ := hir.cell hv1
                          by_cases h8 : 8 < bh
                          · have HLB := Lib.hid (HE.out 14 (by rw [hrs]; exact rgo_bad hb1 (.inl h8)))
                            have HKR := Lib.hid (H3.out.1.trans (hkp7.mono fun q hq e => .inr ⟨by have := H3.out.2.1; rcases e with e | e <;> omega, hq⟩))
                            go_wp2_with fail
                            go_ret3
                            exact .inr ⟨b, u, 14, rfl, HLB.out, HKR.out⟩
                          · have h88 : bh ≤ 8 := by omega
                            by_cases h11 : v1 = -1
                            · have h1n : ¬ ((0 : Int) ≤ v1) := by omega
                              obtain ⟨pe1, he1⟩ := rgo_ok (s := (if 0 ≤ lb then [(lb, u)] else [])) (pend := pend.erase (b : Int)) hb1 h88 (.inl (by rw [hv1, h11]))
                              have hR := (congrArg (fun s => rgo code.length s ts (pend.erase (b : Int))) hrs).trans he1
                              obtain ⟨w8, hw8⟩ : ∃ w8, wc.setCell ⟨w.heap.size + 1, b + 1, none⟩ (.int .i64 bh) = w8 := ⟨_, rfl⟩
                              obtain ⟨ts1, hts1⟩ : ∃ ts1, ts.set (b + 1) bh = ts1 := ⟨_, rfl⟩
                              have irir : Ir w8 (w.heap.size + 1) j ts1 := by rw [← hw8, ← hts1]; exact hir.set (b + 1) bh
                              have hbr8 : Br w8 (w.heap.size + 1 + 1) (done.set b true) := by rw [← hw8]; exact hbr.kp ((Kp.refl (fun q => q = w.heap.size + 1) wc).setCell ⟨w.heap.size + 1, b + 1, none⟩ _ (.inl rfl)) (by omega)
                              have hkp8 : Kp (fun q => q = w.heap.size + 1 ∨ q = w.heap.size + 1 + 1) w3 w8 := by rw [← hw8]; exact hkp7.setCell ⟨w.heap.size + 1, b + 1, none⟩ _ (.inl (.inl rfl))
                              have irlen1 : ts1.length = j := by rw [← hts1, List.length_set]; exact irlen
                              have irbd1 : ∀ (i : Nat) (v : Int), ts1[i]? = some v → v ≠ -1 → 0 ≤ v := fun i v e e2 => by
                                rw [← hts1] at e
                                by_cases hi : b + 1 = i
                                · subst hi
                                  rw [List.getElem?_set_self (by omega)] at e
                                  rw [← Option.some.inj e]; exact hbp
                                · rw [List.getElem?_set_ne hi] at e
                                  exact irbd i v e e2
                              rw [hts1] at hR
                              have HW8 := Lib.hid hw8
                              have HRR := Lib.hid hR
                              have HSS := Lib.hid (And.intro irir (And.intro hbr8 (And.intro hkp8 (And.intro irlen1 irbd1))))
                              clear hw8 hts1 he1 hrs hir hbr hkp7 irlen irbd hR irir hbr8 hkp8 irlen1 irbd1
                              go_upto_region 34 with fail
                              rw [HW8.out]
                              clear cv1 fv1 d37 z07 HW8
                              obtain ⟨irir, hbr8, hkp8, irlen, irbd⟩ := HSS.out
                              have hR := HRR.out
                              by_cases hlb : 0 ≤ lb
                              · obtain ⟨L, rfl⟩ : ∃ L : Nat, lb = L := ⟨lb.toNat, by omega⟩
                                have hLj : L < j := by have := HLI2.out; omega
                                have hLi : (L : Int) < j := by omega
                                rw [if_pos hlb] at hR
                                have hL2 : L < code.length := by rw [H.out.2.2.1]; exact hLj
                                obtain ⟨v2, hv2⟩ : ∃ v2, ts1[L]? = some v2 := ⟨ts1[L]'(by omega), List.getElem?_eq_getElem _⟩
                                obtain ⟨cv2, fv2⟩ := irir.cell hv2
                                by_cases h21 : v2 = -1
                                · have h2n : ¬ ((0 : Int) ≤ v2) := by omega
                                  obtain ⟨pe2, he2⟩ := rgo_ok (s := []) (pend := pe1) hL2 hub8 (.inl (by rw [hv2, h21]))
                                  have hfin := HO.out _ _ (hR.trans (he2.trans rgo_end))
                                  clear he2
                                  have HFN := Lib.hid (And.intro hfin (And.intro (irir.set L u) (And.intro (hbr8.kp ((Kp.refl (fun q => q = w.heap.size + 1) w8).setCell ⟨w.heap.size + 1, L, none⟩ (.int .i64 u) (.inl rfl)) (by omega)) (hkp8.trans' ((Kp.refl (fun q => q = w.heap.size + 1 ∨ q = w.heap.size + 1 + 1) w8).setCell ⟨w.heap.size + 1, L, none⟩ (.int .i64 u) (.inl (.inl rfl)))))))
                                  clear hfin hR
                                  go_wp2_with fail
                                  go_roundg (cf (done.set b true))
                                  case measure => have := HT.out.2.2.2; have := HL.out.2.2; omega
                                  case rel => exact ⟨_, _, _, done.set b true, rfl, rfl, ⟨HFN.out.1, by rw [H.out.2.2.1]; exact HFN.out.2.1, HFN.out.2.2.1, HFN.out.2.2.2⟩⟩
                                · have h2p : (0 : Int) ≤ v2 := irbd L v2 hv2 h21
                                  by_cases h22 : v2 = u
                                  · have h23 : (v2 == u) = true := by simpa using h22
                                    obtain ⟨pe2, he2⟩ := rgo_ok (s := []) (pend := pe1) hL2 hub8 (.inr (by rw [hv2, h22]))
                                    have hfin := HO.out _ _ (hR.trans (he2.trans rgo_end))
                                    clear he2
                                    have HFN := Lib.hid (And.intro hfin (And.intro (irir.set L u) (And.intro (hbr8.kp ((Kp.refl (fun q => q = w.heap.size + 1) w8).setCell ⟨w.heap.size + 1, L, none⟩ (.int .i64 u) (.inl rfl)) (by omega)) (hkp8.trans' ((Kp.refl (fun q => q = w.heap.size + 1 ∨ q = w.heap.size + 1 + 1) w8).setCell ⟨w.heap.size + 1, L, none⟩ (.int .i64 u) (.inl (.inl rfl)))))))
                                    clear hfin hR
                                    go_wp2_with fail
                                    go_roundg (cf (done.set b true))
                                    case measure => have := HT.out.2.2.2; have := HL.out.2.2; omega
                                    case rel => exact ⟨_, _, _, done.set b true, rfl, rfl, ⟨HFN.out.1, by rw [H.out.2.2.1]; exact HFN.out.2.1, HFN.out.2.2.1, HFN.out.2.2.2⟩⟩
                                  · have h23 : (v2 == u) = false := by simpa using h22
                                    have HLB := Lib.hid (HE.out 14 (hR.trans (rgo_bad hL2 (.inr ⟨fun e => h21 (Option.some.inj (hv2.symm.trans e)), fun e => h22 (Option.some.inj (hv2.symm.trans e))⟩))))
                                    have HKR := Lib.hid (H3.out.1.trans (hkp8.mono fun q hq e => .inr ⟨by have := H3.out.2.1; rcases e with e | e <;> omega, hq⟩))
                                    go_wp2_with fail
                                    go_ret3
                                    exact .inr ⟨b, u, 14, rfl, HLB.out, HKR.out⟩
                              · rw [if_neg hlb] at hR
                                have hfin := HO.out _ _ (hR.trans rgo_end)
                                have HFN := Lib.hid (And.intro hfin (And.intro (irir) (And.intro (hbr8) (hkp8))))
                                clear hfin hR
                                go_wp2_with fail
                                go_roundg (cf (done.set b true))
                                case measure => have := HT.out.2.2.2; have := HL.out.2.2; omega
                                case rel => exact ⟨_, _, _, done.set b true, rfl, rfl, ⟨HFN.out.1, by rw [H.out.2.2.1]; exact HFN.out.2.1, HFN.out.2.2.1, HFN.out.2.2.2⟩⟩
                            · have h1p : (0 : Int) ≤ v1 := irbd (b + 1) v1 hv1 h11
                              by_cases h12 : v1 = bh
                              · have h13 : (v1 == bh) = true := by simpa using h12
                                obtain ⟨pe1, he1⟩ := rgo_ok (s := (if 0 ≤ lb then [(lb, u)] else [])) (pend := pend.erase (b : Int)) hb1 h88 (.inr (by rw [hv1, h12]))
                                have hR := (congrArg (fun s => rgo code.length s ts (pend.erase (b : Int))) hrs).trans he1
                                obtain ⟨w8, hw8⟩ : ∃ w8, wc.setCell ⟨w.heap.size + 1, b + 1, none⟩ (.int .i64 bh) = w8 := ⟨_, rfl⟩
                                obtain ⟨ts1, hts1⟩ : ∃ ts1, ts.set (b + 1) bh = ts1 := ⟨_, rfl⟩
                                have irir : Ir w8 (w.heap.size + 1) j ts1 := by rw [← hw8, ← hts1]; exact hir.set (b + 1) bh
                                have hbr8 : Br w8 (w.heap.size + 1 + 1) (done.set b true) := by rw [← hw8]; exact hbr.kp ((Kp.refl (fun q => q = w.heap.size + 1) wc).setCell ⟨w.heap.size + 1, b + 1, none⟩ _ (.inl rfl)) (by omega)
                                have hkp8 : Kp (fun q => q = w.heap.size + 1 ∨ q = w.heap.size + 1 + 1) w3 w8 := by rw [← hw8]; exact hkp7.setCell ⟨w.heap.size + 1, b + 1, none⟩ _ (.inl (.inl rfl))
                                have irlen1 : ts1.length = j := by rw [← hts1, List.length_set]; exact irlen
                                have irbd1 : ∀ (i : Nat) (v : Int), ts1[i]? = some v → v ≠ -1 → 0 ≤ v := fun i v e e2 => by
                                  rw [← hts1] at e
                                  by_cases hi : b + 1 = i
                                  · subst hi
                                    rw [List.getElem?_set_self (by omega)] at e
                                    rw [← Option.some.inj e]; exact hbp
                                  · rw [List.getElem?_set_ne hi] at e
                                    exact irbd i v e e2
                                rw [hts1] at hR
                                have HW8 := Lib.hid hw8
                                have HRR := Lib.hid hR
                                have HSS := Lib.hid (And.intro irir (And.intro hbr8 (And.intro hkp8 (And.intro irlen1 irbd1))))
                                clear hw8 hts1 he1 hrs hir hbr hkp7 irlen irbd hR irir hbr8 hkp8 irlen1 irbd1
                                go_upto_region 34 with fail
                                rw [HW8.out]
                                clear cv1 fv1 d37 z07 HW8
                                obtain ⟨irir, hbr8, hkp8, irlen, irbd⟩ := HSS.out
                                have hR := HRR.out
                                by_cases hlb : 0 ≤ lb
                                · obtain ⟨L, rfl⟩ : ∃ L : Nat, lb = L := ⟨lb.toNat, by omega⟩
                                  have hLj : L < j := by have := HLI2.out; omega
                                  have hLi : (L : Int) < j := by omega
                                  rw [if_pos hlb] at hR
                                  have hL2 : L < code.length := by rw [H.out.2.2.1]; exact hLj
                                  obtain ⟨v2, hv2⟩ : ∃ v2, ts1[L]? = some v2 := ⟨ts1[L]'(by omega), List.getElem?_eq_getElem _⟩
                                  obtain ⟨cv2, fv2⟩ := irir.cell hv2
                                  by_cases h21 : v2 = -1
                                  · have h2n : ¬ ((0 : Int) ≤ v2) := by omega
                                    obtain ⟨pe2, he2⟩ := rgo_ok (s := []) (pend := pe1) hL2 hub8 (.inl (by rw [hv2, h21]))
                                    have hfin := HO.out _ _ (hR.trans (he2.trans rgo_end))
                                    clear he2
                                    have HFN := Lib.hid (And.intro hfin (And.intro (irir.set L u) (And.intro (hbr8.kp ((Kp.refl (fun q => q = w.heap.size + 1) w8).setCell ⟨w.heap.size + 1, L, none⟩ (.int .i64 u) (.inl rfl)) (by omega)) (hkp8.trans' ((Kp.refl (fun q => q = w.heap.size + 1 ∨ q = w.heap.size + 1 + 1) w8).setCell ⟨w.heap.size + 1, L, none⟩ (.int .i64 u) (.inl (.inl rfl)))))))
                                    clear hfin hR
                                    go_wp2_with fail
                                    go_roundg (cf (done.set b true))
                                    case measure => have := HT.out.2.2.2; have := HL.out.2.2; omega
                                    case rel => exact ⟨_, _, _, done.set b true, rfl, rfl, ⟨HFN.out.1, by rw [H.out.2.2.1]; exact HFN.out.2.1, HFN.out.2.2.1, HFN.out.2.2.2⟩⟩
                                  · have h2p : (0 : Int) ≤ v2 := irbd L v2 hv2 h21
                                    by_cases h22 : v2 = u
                                    · have h23 : (v2 == u) = true := by simpa using h22
                                      obtain ⟨pe2, he2⟩ := rgo_ok (s := []) (pend := pe1) hL2 hub8 (.inr (by rw [hv2, h22]))
                                      have hfin := HO.out _ _ (hR.trans (he2.trans rgo_end))
                                      clear he2
                                      have HFN := Lib.hid (And.intro hfin (And.intro (irir.set L u) (And.intro (hbr8.kp ((Kp.refl (fun q => q = w.heap.size + 1) w8).setCell ⟨w.heap.size + 1, L, none⟩ (.int .i64 u) (.inl rfl)) (by omega)) (hkp8.trans' ((Kp.refl (fun q => q = w.heap.size + 1 ∨ q = w.heap.size + 1 + 1) w8).setCell ⟨w.heap.size + 1, L, none⟩ (.int .i64 u) (.inl (.inl rfl)))))))
                                      clear hfin hR
                                      go_wp2_with fail
                                      go_roundg (cf (done.set b true))
                                      case measure => have := HT.out.2.2.2; have := HL.out.2.2; omega
                                      case rel => exact ⟨_, _, _, done.set b true, rfl, rfl, ⟨HFN.out.1, by rw [H.out.2.2.1]; exact HFN.out.2.1, HFN.out.2.2.1, HFN.out.2.2.2⟩⟩
                                    · have h23 : (v2 == u) = false := by simpa using h22
                                      have HLB := Lib.hid (HE.out 14 (hR.trans (rgo_bad hL2 (.inr ⟨fun e => h21 (Option.some.inj (hv2.symm.trans e)), fun e => h22 (Option.some.inj (hv2.symm.trans e))⟩))))
                                      have HKR := Lib.hid (H3.out.1.trans (hkp8.mono fun q hq e => .inr ⟨by have := H3.out.2.1; rcases e with e | e <;> omega, hq⟩))
                                      go_wp2_with fail
                                      go_ret3
                                      exact .inr ⟨b, u, 14, rfl, HLB.out, HKR.out⟩
                                · rw [if_neg hlb] at hR
                                  have hfin := HO.out _ _ (hR.trans rgo_end)
                                  have HFN := Lib.hid (And.intro hfin (And.intro (irir) (And.intro (hbr8) (hkp8))))
                                  clear hfin hR
                                  go_wp2_with fail
                                  go_roundg (cf (done.set b true))
                                  case measure => have := HT.out.2.2.2; have := HL.out.2.2; omega
                                  case rel => exact ⟨_, _, _, done.set b true, rfl, rfl, ⟨HFN.out.1, by rw [H.out.2.2.1]; exact HFN.out.2.1, HFN.out.2.2.1, HFN.out.2.2.2⟩⟩
                              · have h13 : (v1 == bh) = false := by simpa using h12
                                have HLB := Lib.hid (HE.out 14 (by rw [hrs]; exact rgo_bad hb1 (.inr ⟨fun e => h11 (Option.some.inj (hv1.symm.trans e)), fun e => h12 (Option.some.inj (hv1.symm.trans e))⟩)))
                                have HKR := Lib.hid (H3.out.1.trans (hkp7.mono fun q hq e => .inr ⟨by have := H3.out.2.1; rcases e with e | e <;> omega, hq⟩))
                                go_wp2_with fail
                                go_ret3
                                exact .inr ⟨b, u, 14, rfl, HLB.out, HKR.out⟩
          · obtain ⟨k', rfl⟩ : ∃ k', k = k' + 1 := ⟨k - 1, by omega⟩
            obtain rfl : v = (k' : Int) := by omega
            obtain ⟨u, hu⟩ : ∃ u, ts[k']? = some u := ⟨_, List.getElem?_eq_getElem (by have := HL.out.1; omega)⟩
            obtain ⟨d, hd⟩ : ∃ d, done[k']? = some d := ⟨_, List.getElem?_eq_getElem (by have := HL.out.2.1; omega)⟩
            obtain ⟨cu, -⟩ := HS.out.tr.cell hu
            obtain ⟨cd, -⟩ := HS.out.dn.cell hd
            have hkj : (k' : Int) < j := by omega
            have hk0i : (0 : Int) ≤ k' := by omega
            have hub := HS.out.st.run.bd k' u hu
            have HA := Lib.hid (And.intro ha (And.intro hu hd))
            clear ha hu hd
            by_cases hu1 : u = -1
            · have hui : ¬ ((0 : Int) ≤ u) := by omega
              clear hub
              go_wp2_with fail
              go_roundg k'
              case measure => omega
              case rel =>
                refine ⟨k', _, a, rfl, by omega, rfl, rfl, by omega, rfl, ?_⟩
                have hnp : ¬ Pn ts done k' := fun ⟨⟨u2, e, e2⟩, _⟩ => e2 (by rw [HA.out.2.1] at e; rw [← Option.some.inj e]; exact hu1)
                rcases HA.out.1 with ⟨e1, e2⟩ | ⟨b, e1, e2, e3, e4⟩
                · exact .inl ⟨e1, fun i hi => by
                    by_cases e : i = k'
                    · rw [e]; exact hnp
                    · exact e2 i (by omega)⟩
                · exact .inr ⟨b, e1, by omega, e3, fun i hi hib => by
                    by_cases e : i = k'
                    · rw [e]; exact hnp
                    · exact e4 i (by omega) hib⟩
            · have hui : (0 : Int) ≤ u := (hub hu1).1
              clear hub
              cases d with
              | true =>
                go_wp2_with fail
                go_roundg k'
                case measure => omega
                case rel =>
                  refine ⟨k', _, a, rfl, by omega, rfl, rfl, by omega, rfl, ?_⟩
                  have hnp : ¬ Pn ts done k' := fun ⟨_, e⟩ => by rw [HA.out.2.2] at e; cases e
                  rcases HA.out.1 with ⟨e1, e2⟩ | ⟨b, e1, e2, e3, e4⟩
                  · exact .inl ⟨e1, fun i hi => by
                      by_cases e : i = k'
                      · rw [e]; exact hnp
                      · exact e2 i (by omega)⟩
                  · exact .inr ⟨b, e1, by omega, e3, fun i hi hib => by
                      by_cases e : i = k'
                      · rw [e]; exact hnp
                      · exact e4 i (by omega) hib⟩
              | false =>
                go_wp2_with fail
                go_roundg k'
                case measure => omega
                case rel => exact ⟨k', _, _, rfl, by omega, rfl, rfl, by omega, rfl, .inr ⟨k', rfl, Nat.le_refl _, ⟨⟨u, HA.out.2.1, hu1⟩, HA.out.2.2⟩, fun i hi hi2 => by omega⟩⟩
end Go.Proofs.YtpdepmkojbpklaaDoor
