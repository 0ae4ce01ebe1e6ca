/- What the reference says of an instruction, by its operands. -/
import Derived.Test.YtpdepmkojbpklaaDoorM36
import Derived.StillTailTactics
/- What the reference says of an instruction, by its operands. -/
namespace Go.Proofs.YtpdepmkojbpklaaDoor
open Go.RowKit
/-- the reference's table -/
def rtab (n : Nat) : Int := fsN[n]?.getD 0
/-- the string of an Op's shapes -/
def shS (o : Nat) : ByteArray := match shArr3[o]? with
  | some (.string s) => s
  | _ => ⟨#[]⟩
def isS (o : Nat) : Bool := match shArr3[o]? with
  | some (.string _) => true
  | _ => false
theorem isS_all : ∀ o : _root_.Fin 42, isS o.val = true := by decide +kernel
theorem shS_size : ∀ o : _root_.Fin 42, (shS o.val).size = 3 := by decide +kernel
theorem shS_get : ∀ o : _root_.Fin 42, ∀ i : _root_.Fin 3, (((shS o.val).get! i.val).toNat : Int) = rch (vsh (o.val : Int) i.val) := by decide +kernel
theorem shS_ok (o : _root_.Fin 42) : shArr3[o.val]? = some (.string (shS o.val)) ∧ (shS o.val).size = 3 ∧ ∀ i : _root_.Fin 3, (((shS o.val).get! i.val).toNat : Int) = rch (vsh (o.val : Int) i.val) := by
  refine ⟨?_, shS_size o, shS_get o⟩
  have h := isS_all o
  unfold isS at h
  unfold shS
  split at h
  · rename_i s hs
    rw [hs]
  · cases h
def isN (a : Nat) : Bool := match fsArr[a * 2 + 1]? with
  | some (.int .i64 v) => v == rtab a
  | _ => false
theorem isN_all : ∀ a : _root_.Fin 40, isN a.val = true := by decide +kernel
theorem rtab_bd : ∀ a : _root_.Fin 40, 0 ≤ rtab a.val ∧ rtab a.val ≤ 3 := by decide +kernel
theorem fs_cell (a : Nat) (ha : a < 40) : fsArr[a * 2 + 1]? = some (.int .i64 (rtab a)) := by
  have h := isN_all ⟨a, ha⟩
  unfold isN at h
  simp only at h
  split at h
  · rename_i v hv
    rw [hv]
    have : v = rtab a := by simpa using h
    rw [this]
  · cases h
theorem vrng_none {n lo hi k : Int} (h : vrng n lo hi k = none) : lo ≤ n ∧ n ≤ hi := by
  unfold vrng at h
  split at h
  · assumption
  · cases h
theorem ba_get (S : ByteArray) (k : Nat) (h : k < S.size) : S.get! k = S[k] := by
  show S.data[k]! = S.data[k]'h
  exact getElem!_pos S.data k h

set_option maxRecDepth 100000 in
set_option maxHeartbeats 8000000 in
theorem rown_any {F : Nat → Prop} {w : World} {nm fnm : ByteArray} {fns : List Fn4} {pl pf pc : Option Addr} {nl cl nf cf nc cc : Nat} {sl fa : Int} (hf : FnsAt F w fns (.slice pf nf cf)) (x : In4) (hx : x.wf)
    (hop : ∀ (what v : Int) (u : World), 0 ≤ what → what ≤ 9 → isI64 v → Calls Tryd.prog 45 #[.agg #[.string nm, .slice pl nl cl, .slice pf nf cf], .agg #[.string fnm, .int .i64 fa, .int .i64 sl, .slice pc nc cc], .int .u8 (rch what), .int .i64 v] u fun e w' => e = .returned (.int .i64 ((vopA nl nf nc sl what v).getD 0)) ∧ Kp (fun _ => False) u w') :
    Calls Tryd.prog 32 #[.agg #[.string nm, .slice pl nl cl, .slice pf nf cf], .agg #[.string fnm, .int .i64 fa, .int .i64 sl, .slice pc nc cc], .agg #[.int .i64 x.op, .int .i64 x.a, .int .i64 x.b, .int .i64 x.c]] w fun e w' =>
      e = .returned (.int .i64 ((vinsA rtab nl nf nc sl x (arOf fns x)).getD 0)) ∧ Kp (fun _ => False) w w' := by
  obtain ⟨op, a, b, c⟩ := x
  obtain ⟨w3, hw3⟩ : ∃ w3, ((w.alloc (.cells #[.string nm, .slice pl nl cl, .slice pf nf cf] 26)).alloc (.cells #[.string fnm, .int .i64 fa, .int .i64 sl, .slice pc nc cc] 32)).alloc (.cells #[.int .i64 op, .int .i64 a, .int .i64 b, .int .i64 c] 29) = w3 := ⟨_, rfl⟩
  have hk3 : Kp (fun _ => False) w w3 := by rw [← hw3]; exact (((Kp.refl _ w).alloc _).alloc _).alloc _
  have hz3 : w3.heap.size = w.heap.size + 3 := by rw [← hw3]; simp
  have b0 : w3.heap[w.heap.size]? = some (.cells #[.string nm, .slice pl nl cl, .slice pf nf cf] 26 (0, 0)) := by
    rw [← hw3, Below.heap_alloc _ _ _ (by simp; omega), Below.heap_alloc _ _ _ (by simp)]; exact heap_alloc_new w _
  have b1 : w3.heap[w.heap.size + 1]? = some (.cells #[.string fnm, .int .i64 fa, .int .i64 sl, .slice pc nc cc] 32 (0, 0)) := by
    rw [← hw3, Below.heap_alloc _ _ _ (by simp)]
    have := heap_alloc_new (w.alloc (.cells #[.string nm, .slice pl nl cl, .slice pf nf cf] 26)) (.cells #[.string fnm, .int .i64 fa, .int .i64 sl, .slice pc nc cc] 32)
    simpa using this
  have b2 : w3.heap[w.heap.size + 1 + 1]? = some (.cells #[.int .i64 op, .int .i64 a, .int .i64 b, .int .i64 c] 29 (0, 0)) := by
    rw [← hw3]
    have := heap_alloc_new ((w.alloc (.cells #[.string nm, .slice pl nl cl, .slice pf nf cf] 26)).alloc (.cells #[.string fnm, .int .i64 fa, .int .i64 sl, .slice pc nc cc] 32)) (.cells #[.int .i64 op, .int .i64 a, .int .i64 b, .int .i64 c] 29)
    simpa using this
  obtain ⟨w4, hw4⟩ : ∃ w4, w3.alloc (.cells shArr3 9) = w4 := ⟨_, rfl⟩
  have hk4 : Kp (fun _ => False) w3 w4 := by rw [← hw4]; exact (Kp.refl _ w3).alloc _
  have hb4 : w4.heap[w3.heap.size]? = some (.cells shArr3 9 (0, 0)) := by rw [← hw4]; exact heap_alloc_new w3 _
  have HS := Lib.hid (rshapes_any w3)
  have H4 := Lib.hid (And.intro hk3 (And.intro hk4 (And.intro b0 (And.intro b1 (And.intro b2 hb4)))))
  have HW3 := Lib.hid hw3
  have HW4 := Lib.hid hw4
  have hres0 : ¬ (1 ≤ op ∧ op ≤ 41) → vinsA rtab nl nf nc sl ⟨op, a, b, c⟩ (arOf fns ⟨op, a, b, c⟩) = some 1 := fun h => by unfold vinsA; rw [if_pos h]
  obtain ⟨ar, har⟩ : ∃ ar, arOf fns ⟨op, a, b, c⟩ = ar := ⟨_, rfl⟩
  rw [har] at hres0 ⊢
  obtain ⟨R, hR⟩ : ∃ R, (vinsA rtab nl nf nc sl ⟨op, a, b, c⟩ ar).getD 0 = R := ⟨_, rfl⟩
  rw [hR]
  have HRR := Lib.hid hR
  clear hR
  have y2 := (hk4.block _ (Array.getElem?_eq_some_iff.1 b2).1 (fun e => e)).trans b2
  have z0 : w4.cell? ⟨w.heap.size + 1 + 1, 0, none⟩ = some (.int .i64 op) := by rw [cell_of_row w4 _ 0 _ _ _ y2]; rfl
  have z1 : w4.cell? ⟨w.heap.size + 1 + 1, 1, none⟩ = some (.int .i64 a) := by rw [cell_of_row w4 _ 1 _ _ _ y2]; rfl
  have z2 : w4.cell? ⟨w.heap.size + 1 + 1, 2, none⟩ = some (.int .i64 b) := by rw [cell_of_row w4 _ 2 _ _ _ y2]; rfl
  have z3 : w4.cell? ⟨w.heap.size + 1 + 1, 3, none⟩ = some (.int .i64 c) := by rw [cell_of_row w4 _ 3 _ _ _ y2]; rfl
  have HX := Lib.hid (And.intro hf (And.intro hx har))
  clear hk3 hk4 b0 b1 b2 hb4 hw3 hw4 y2 hf hx har hz3
  by_cases hin : 1 ≤ op ∧ op ≤ 41
  · have o1 := hin.1
    have o2 := hin.2
    obtain ⟨o, rfl⟩ : ∃ o : Nat, op = o := ⟨op.toNat, by omega⟩
    have ho := shS_ok ⟨o, by omega⟩
    have hcs : w4.cell? ⟨w3.heap.size, o, none⟩ = some (.string (shS o)) := by rw [cell_of_row w4 _ o _ _ _ H4.out.2.2.2.2.2]; exact ho.1
    have HO := Lib.hid ho.2
    have hol : (o : Int) < 42 := by omega
    clear ho hres0
    go_enter Tryd.func32, Tryd.ntmps32
    go_upto_region 1 with fail
    rw [HW3.out]
    go_wp2_with fail
    refine HS.out.mono ?_
    rintro e w9 ⟨rfl, hw9⟩
    rw [HW4.out] at hw9
    subst hw9
    clear HW3 HW4
    go_wp2_with fail
    obtain ⟨w5, hw5⟩ : ∃ w5, w9.alloc (.cells #[.int .i64 a, .int .i64 b, .int .i64 c] 3) = w5 := ⟨_, rfl⟩
    have hk5 : Kp (fun _ => False) w9 w5 := by rw [← hw5]; exact (Kp.refl _ w9).alloc _
    have hb5 : w5.heap[w9.heap.size]? = some (.cells #[.int .i64 a, .int .i64 b, .int .i64 c] 3 (0, 0)) := by rw [← hw5]; exact heap_alloc_new w9 _
    have k05 : Kp (fun _ => False) w w5 := (H4.out.1.trans' H4.out.2.1).trans' hk5
    have hm5 := ((H4.out.2.1.trans' hk5).block _ (Array.getElem?_eq_some_iff.1 H4.out.2.2.1).1 (fun e => e)).trans H4.out.2.2.1
    have hf5 := ((H4.out.2.1.trans' hk5).block _ (Array.getElem?_eq_some_iff.1 H4.out.2.2.2.1).1 (fun e => e)).trans H4.out.2.2.2.1
    have hi5 := ((H4.out.2.1.trans' hk5).block _ (Array.getElem?_eq_some_iff.1 H4.out.2.2.2.2.1).1 (fun e => e)).trans H4.out.2.2.2.2.1
    have H5 := Lib.hid (And.intro k05 (And.intro hb5 (And.intro hm5 (And.intro hf5 hi5))))
    have HW5 := Lib.hid hw5
    have HOP := Lib.hid hop
    clear hk5 hb5 k05 hm5 hf5 hi5 hw5 hop hcs
    rw [HW5.out]
    clear HW5 z0 z1 z2 z3
    obtain ⟨S, hS⟩ : ∃ S, shS o = S := ⟨_, rfl⟩
    rw [hS] at HO ⊢
    clear hS
    go_loopg [10, 11] 3 (fun gk s10 s11 wr => ∃ k : Nat, k ≤ 3 ∧ gk = 3 - k ∧ s10 = .int .i64 k ∧ (∀ j, j < k → vopA nl nf nc sl (vsh o j) (if j = 0 then a else if j = 1 then b else c) = none) ∧ Kp (fun _ => False) w5 wr)
    case atStart => exact ⟨0, by omega, rfl, rfl, fun j hj => absurd hj (Nat.not_lt_zero j), Kp.refl _ _⟩
    case round =>
      obtain ⟨k, hk, hgk, rfl, hno, hkr⟩ := hrel
      have cm := (hkr.block _ (Array.getElem?_eq_some_iff.1 H5.out.2.2.1).1 (fun e => e)).trans H5.out.2.2.1
      have cf' := (hkr.block _ (Array.getElem?_eq_some_iff.1 H5.out.2.2.2.1).1 (fun e => e)).trans H5.out.2.2.2.1
      have ci := (hkr.block _ (Array.getElem?_eq_some_iff.1 H5.out.2.2.2.2).1 (fun e => e)).trans H5.out.2.2.2.2
      have cl' := (hkr.block _ (Array.getElem?_eq_some_iff.1 H5.out.2.1).1 (fun e => e)).trans H5.out.2.1
      have HN := Lib.hid (And.intro hno (And.intro hkr (And.intro hgk ci)))
      by_cases hk3 : k < 3
      · have m0 : wr.cell? ⟨w.heap.size, 0, none⟩ = some (.string nm) := by rw [cell_of_row wr _ 0 _ _ _ cm]; rfl
        have m1 : wr.cell? ⟨w.heap.size, 1, none⟩ = some (.slice pl nl cl) := by rw [cell_of_row wr _ 1 _ _ _ cm]; rfl
        have m2 : wr.cell? ⟨w.heap.size, 2, none⟩ = some (.slice pf nf cf) := by rw [cell_of_row wr _ 2 _ _ _ cm]; rfl
        have f0 : wr.cell? ⟨w.heap.size + 1, 0, none⟩ = some (.string fnm) := by rw [cell_of_row wr _ 0 _ _ _ cf']; rfl
        have f1 : wr.cell? ⟨w.heap.size + 1, 1, none⟩ = some (.int .i64 fa) := by rw [cell_of_row wr _ 1 _ _ _ cf']; rfl
        have f2 : wr.cell? ⟨w.heap.size + 1, 2, none⟩ = some (.int .i64 sl) := by rw [cell_of_row wr _ 2 _ _ _ cf']; rfl
        have f3 : wr.cell? ⟨w.heap.size + 1, 3, none⟩ = some (.slice pc nc cc) := by rw [cell_of_row wr _ 3 _ _ _ cf']; rfl
        obtain ⟨v, hv⟩ : ∃ v, (if k = 0 then a else if k = 1 then b else c) = v := ⟨_, rfl⟩
        have l0 : wr.cell? ⟨w9.heap.size, k, none⟩ = some (.int .i64 v) := by
          rw [cell_of_row wr _ k _ _ _ cl', ← hv]
          match k, hk3 with
          | 0, _ => rfl
          | 1, _ => rfl
          | 2, _ => rfl
        have hki : (k : Int) < 3 := by omega
        have hsz := HO.out.1
        have hget := HO.out.2 ⟨k, hk3⟩
        clear cm cf' ci cl' hno hkr hgk
        go_wp2_with fail
        go_still_tail 9, (by kernel_rfl)
        go_wp2_with fail
        have hb : k < S.size := by omega
        have hgk2 : ((S[k]'hb).toNat : Int) = rch (vsh o k) := by rw [← ba_get S k hb]; exact hget
        have hvk := vsh_ok ⟨o, by omega⟩ ⟨k, hk3⟩
        have hvw : isI64 v := by
          rw [← hv]
          have hw := HX.out.2.1
          split
          · exact hw.2.1
          · split
            · exact hw.2.2.1
            · exact hw.2.2.2
        have hcall := HOP.out (vsh o k) v wr.drew hvk.1 hvk.2.1 hvw
        rw [← hgk2] at hcall
        refine hcall.mono ?_
        rintro e w8 ⟨rfl, hk8⟩
        have HV := Lib.hid hv
        cases hvo : vopA nl nf nc sl (vsh o k) v with
        | none =>
          have H8 := Lib.hid (And.intro hk8 hvo)
          clear hk8 hvo hcall hgk2 hget hv m0 m1 m2 f0 f1 f2 f3 l0
          simp only [Option.getD_none]
          go_wp2_with fail
          go_roundg (3 - (k + 1))
          case measure => have := HN.out.2.2.1; omega
          case rel => exact ⟨k + 1, by omega, rfl, by go_num, fun j hj => by
            by_cases e : j = k
            · rw [e, HV.out]; exact H8.out.2
            · exact HN.out.1 j (by omega), (kp_drewN HN.out.2.1 1).trans' H8.out.1⟩
        | some kk =>
          have hvi : vinsA rtab nl nf nc sl ⟨o, a, b, c⟩ ar = some kk := by
            rw [← HV.out] at hvo
            have h0 := HN.out.1
            match k, hk3, hvo, h0 with
            | 0, _, hvo, _ => exact vinsA_0 (x := ⟨o, a, b, c⟩) (o := o) ⟨o1, o2⟩ rfl hvo
            | 1, _, hvo, h0 => exact vinsA_1 (x := ⟨o, a, b, c⟩) (o := o) ⟨o1, o2⟩ rfl (h0 0 (by omega)) hvo
            | 2, _, hvo, h0 => exact vinsA_2 (x := ⟨o, a, b, c⟩) (o := o) ⟨o1, o2⟩ rfl (h0 0 (by omega)) (h0 1 (by omega)) hvo
          have hkk : kk ≠ 0 := vinsA_nz hvi
          have H8 := Lib.hid (And.intro hk8 hvi)
          clear hk8 hvo hcall hgk2 hget hv m0 m1 m2 f0 f1 f2 f3 l0 hvi
          simp only [Option.getD_some]
          go_wp2_with fail
          go_ret
          exact ⟨by rw [← HRR.out, H8.out.2]; rfl, H5.out.1.trans' ((kp_drewN HN.out.2.1 1).trans' H8.out.1)⟩
      · obtain rfl : k = 3 := by omega
        have e0 := hno 0 (by omega)
        have e1 := hno 1 (by omega)
        have e2 := hno 2 (by omega)
        simp only at e0 e1 e2
        have hv3 := vinsA_3 (tab := rtab) (x := ⟨o, a, b, c⟩) (ar := ar) (o := o) ⟨o1, o2⟩ rfl e0 e1 e2
        have q0 : wr.cell? ⟨w.heap.size + 1 + 1, 0, none⟩ = some (.int .i64 o) := by rw [cell_of_row wr _ 0 _ _ _ ci]; rfl
        have q1 : wr.cell? ⟨w.heap.size + 1 + 1, 1, none⟩ = some (.int .i64 a) := by rw [cell_of_row wr _ 1 _ _ _ ci]; rfl
        have q2 : wr.cell? ⟨w.heap.size + 1 + 1, 2, none⟩ = some (.int .i64 b) := by rw [cell_of_row wr _ 2 _ _ _ ci]; rfl
        have q3 : wr.cell? ⟨w.heap.size + 1 + 1, 3, none⟩ = some (.int .i64 c) := by rw [cell_of_row wr _ 3 _ _ _ ci]; rfl
        have m2 : wr.cell? ⟨w.heap.size, 2, none⟩ = some (.slice pf nf cf) := by rw [cell_of_row wr _ 2 _ _ _ cm]; rfl
        clear cm cf' ci cl' hno hk3 hk hgk
        by_cases h2 : o = 2
        · subst h2
          have hb2 := vrng_none (show vrng b 0 15 12 = none from e1)
          have hc2 := vrng_none (show vrng c 0 16 1 = none from e2)
          replace hv3 : vinsA rtab nl nf nc sl ⟨((2 : Nat) : Int), a, b, c⟩ ar = if 16 - b < c then some 12 else none := hv3
          clear e0 e1 e2 hkr m2
          by_cases hbig : 16 - b < c
          · rw [if_pos hbig] at hv3
            have HRE := Lib.hid hv3
            clear hv3
            go_wp2_with fail
            go_ret
            exact ⟨by rw [← HRR.out, HRE.out]; rfl, H5.out.1.trans' HN.out.2.1⟩
          · rw [if_neg hbig] at hv3
            have HRE := Lib.hid hv3
            clear hv3
            go_wp2_with fail
            go_ret
            exact ⟨by rw [← HRR.out, HRE.out]; rfl, H5.out.1.trans' HN.out.2.1⟩
        · by_cases h12 : o = 12
          · subst h12
            have ha2 := vrng_none (show vrng a 0 39 12 = none from e0)
            have hc2 := vrng_none (show vrng c 0 15 12 = none from e2)
            obtain ⟨A, rfl⟩ : ∃ A : Nat, a = A := ⟨a.toNat, by omega⟩
            have hA : A < 40 := by omega
            have hAi : (A : Int) < 40 := by omega
            have hb := rtab_bd ⟨A, hA⟩
            simp only at hb
            replace hv3 : vinsA rtab nl nf nc sl ⟨((12 : Nat) : Int), A, b, c⟩ ar = if 16 - c < rtab A then some 12 else none := hv3
            have HFC := Lib.hid (fs_cell A hA)
            obtain ⟨N, hN⟩ : ∃ N, rtab A = N := ⟨_, rfl⟩
            rw [hN] at HFC hb hv3
            have hall : ∀ u w8 : World, u.heap = wr.heap → u.os = wr.os → u.tape = wr.tape → u.output = wr.output → w8 = u.alloc (.cells fsArr 103) → w8.cell? ⟨w.heap.size + 1 + 1, 1, none⟩ = some (.int .i64 A) ∧ w8.cell? ⟨wr.heap.size, A * 2 + 1, none⟩ = some (.int .i64 N) ∧ Kp (fun _ => False) wr w8 := by
              intro u w8 hu h1 h2 h3 h8
              have hku : Kp (fun _ => False) wr u := ⟨h1, h2, h3, by rw [hu]; exact Nat.le_refl _, fun k _ _ => by rw [hu]⟩
              have hk8 : Kp (fun _ => False) wr w8 := by rw [h8]; exact hku.alloc _
              refine ⟨(hk8.cell (World.block_lt_of_cell? _ _ q1) (fun e => e)).trans q1, ?_, hk8⟩
              have hb8 := heap_alloc_new u (.cells fsArr 103)
              rw [hu, ← h8] at hb8
              rw [cell_of_row w8 _ _ _ _ _ hb8]
              exact HFC.out
            have HALL := Lib.hid hall
            clear e0 e1 e2 hkr m2 hall
            by_cases hbig : 16 - c < N
            · rw [if_pos hbig] at hv3
              have HRE := Lib.hid hv3
              clear hv3
              go_wp2_with fail
              go_region_with (go_at_call 46; refine (rfs_any _).mono ?_; rintro e w8 ⟨rfl, hw8⟩; obtain ⟨y1, y2, y3⟩ := HALL.out wr.drew _ rfl rfl rfl rfl hw8; have HY := Lib.hid y3; clear hw8 y3)
              all_goals
                go_wp2_with fail
                go_ret
                exact ⟨by rw [← HRR.out, HRE.out]; rfl, H5.out.1.trans' (HN.out.2.1.trans' HY.out)⟩
            · rw [if_neg hbig] at hv3
              have HRE := Lib.hid hv3
              clear hv3
              go_wp2_with fail
              go_region_with (go_at_call 46; refine (rfs_any _).mono ?_; rintro e w8 ⟨rfl, hw8⟩; obtain ⟨y1, y2, y3⟩ := HALL.out wr.drew _ rfl rfl rfl rfl hw8; have HY := Lib.hid y3; clear hw8 y3)
              all_goals
                go_wp2_with fail
                go_ret
                exact ⟨by rw [← HRR.out, HRE.out]; rfl, H5.out.1.trans' (HN.out.2.1.trans' HY.out)⟩
          · by_cases h16 : o = 16
            · subst h16
              have hb2 := vrng_none (show vrng b 0 ((nf : Int) - 1) 12 = none from e1)
              have hc2 := vrng_none (show vrng c 0 15 12 = none from e2)
              obtain ⟨B, rfl⟩ : ∃ B : Nat, b = B := ⟨b.toNat, by omega⟩
              have hBf : B < nf := by omega
              have hff := HX.out.1
              obtain ⟨pf', cf2, ef, g1, g2, g3⟩ := hff
              have hnf : nf = fns.length := by injection ef
              have hpf : pf = pf' := by injection ef
              subst hpf
              obtain ⟨fb, hfb⟩ : ∃ fb, fns[B]? = some fb := ⟨fns[B]'(by omega), List.getElem?_eq_getElem _⟩
              obtain ⟨bb, off, u0, u1, u2, u3, rfl, hbF, t0, t1, t2, t3, vc, hq, hqa, -⟩ := g3 B fb hfb
              simp only [List.cons.injEq, and_true] at hq
              obtain ⟨-, rfl, -, -⟩ := hq
              have harg : ar = fb.args := by
                rw [← HX.out.2.2]
                unfold arOf
                simp only [Int.toNat_natCast]
                rw [hfb]; rfl
              subst harg
              have t1r := (HN.out.2.1.cell (World.block_lt_of_cell? _ _ ((H5.out.1.cell (World.block_lt_of_cell? _ _ t1) (fun e => e)).trans t1)) (fun e => e)).trans ((H5.out.1.cell (World.block_lt_of_cell? _ _ t1) (fun e => e)).trans t1)
              replace hv3 : vinsA rtab nl nf nc sl ⟨((16 : Nat) : Int), a, B, c⟩ fb.args = if 16 - c < fb.args then some 12 else none := hv3
              have hBi : (B : Int) < nf := by omega
              obtain ⟨N, hN⟩ : ∃ N, fb.args = N := ⟨_, rfl⟩
              rw [hN] at hv3 hqa t1r
              obtain ⟨hq1, hq2⟩ := hqa
              clear e0 e1 e2 hkr t0 t1 t2 t3 g1 g2 g3 ef hnf hfb
              by_cases hbig : 16 - c < N
              · rw [if_pos hbig] at hv3
                have HRE := Lib.hid (show R = 12 from by rw [← HRR.out, hN, hv3]; rfl)
                clear hv3
                go_wp2_with fail
                go_ret
                exact ⟨by rw [HRE.out]; rfl, H5.out.1.trans' HN.out.2.1⟩
              · rw [if_neg hbig] at hv3
                have HRE := Lib.hid (show R = 0 from by rw [← HRR.out, hN, hv3]; rfl)
                clear hv3
                go_wp2_with fail
                go_ret
                exact ⟨by rw [HRE.out]; rfl, H5.out.1.trans' HN.out.2.1⟩
            · by_cases h37 : o = 37
              · subst h37
                have hb2 := vrng_none (show vrng b 0 15 12 = none from e1)
                replace hv3 : vinsA rtab nl nf nc sl ⟨((37 : Nat) : Int), a, b, c⟩ ar = if 16 - b < 3 then some 12 else none := hv3
                clear e0 e1 e2 hkr m2
                by_cases hbig : 16 - b < 3
                · rw [if_pos hbig] at hv3
                  have HRE := Lib.hid hv3
                  clear hv3
                  go_wp2_with fail
                  go_ret
                  exact ⟨by rw [← HRR.out, HRE.out]; rfl, H5.out.1.trans' HN.out.2.1⟩
                · rw [if_neg hbig] at hv3
                  have HRE := Lib.hid hv3
                  clear hv3
                  go_wp2_with fail
                  go_ret
                  exact ⟨by rw [← HRR.out, HRE.out]; rfl, H5.out.1.trans' HN.out.2.1⟩
              · have hvr : vregsA rtab ⟨o, a, b, c⟩ ar = (0, 0) := by
                  unfold vregsA vregs
                  simp only
                  rw [if_neg (by omega), if_neg (by omega), if_neg (by omega), if_neg (by omega)]
                rw [hvr] at hv3
                rw [if_neg (by decide)] at hv3
                have g2 : ¬ (o : Int) = 2 := by omega
                have g12 : ¬ (o : Int) = 12 := by omega
                have g16 : ¬ (o : Int) = 16 := by omega
                have g37 : ¬ (o : Int) = 37 := by omega
                have HRE := Lib.hid hv3
                clear e0 e1 e2 hkr m2 hv3 hvr
                go_wp2_with fail
                go_ret
                exact ⟨by rw [← HRR.out, HRE.out]; rfl, H5.out.1.trans' HN.out.2.1⟩
  · obtain rfl : R = 1 := by rw [← HRR.out, hres0 hin]; rfl
    clear hres0 hop
    by_cases h1 : op < 1
    · go_enter Tryd.func32, Tryd.ntmps32
      go_upto_region 1 with fail
      rw [HW3.out]
      go_wp2_with fail
      refine HS.out.mono ?_
      rintro e w9 ⟨rfl, hw9⟩
      rw [HW4.out] at hw9
      subst hw9
      clear HW3 HW4
      go_wp2_with fail
      go_ret
      exact ⟨rfl, H4.out.1.trans' H4.out.2.1⟩
    · have h2 : (42 : Int) ≤ op := by omega
      go_enter Tryd.func32, Tryd.ntmps32
      go_upto_region 1 with fail
      rw [HW3.out]
      go_wp2_with fail
      refine HS.out.mono ?_
      rintro e w9 ⟨rfl, hw9⟩
      rw [HW4.out] at hw9
      subst hw9
      clear HW3 HW4
      go_wp2_with fail
      go_ret
      exact ⟨rfl, H4.out.1.trans' H4.out.2.1⟩
end Go.Proofs.YtpdepmkojbpklaaDoor
