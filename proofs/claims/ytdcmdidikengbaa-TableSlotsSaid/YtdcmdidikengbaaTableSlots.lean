/- the least slot that is free is given first; its number is the slot and so many generations as it was given ahead -/
import Derived.Test.YtdcmdidikengbaaRows
import Derived.Test.YtdcmdidikengbaaTbSlots
import Derived.Test.YtdcmdidikengbaaIn
import Derived.WalkKit
import Derived.ProofKit
import Derived.OpenShut
import Derived.ShutString
import Derived.ChangeOld
import Derived.Below
import Derived.Deep.Strs
namespace Go.Proofs.Ytdcmdidikengbaa.tableSlots
open Go.ChangeShapes Go.WideShapes Go.ChangeAt Go.RowKit
open Go.ChangeMaps (open_string shut_string)
set_option linter.unusedVariables false

theorem own : ownKnob Try.prog.godebug = none := by kernel_rfl
theorem laidOut : laidOutB Try.prog = true := by kernel_rfl

def lsK (n k : Nat) : List Int := (List.range n).map fun j => if j < k then (j : Int) else 0
theorem lsK_set {n k : Nat} (h : k < n) : (lsK n k).set k (k : Int) = lsK n (k + 1) := by
  unfold lsK
  refine range_set _ _ n k _ fun j hj => ?_
  by_cases e : j = k
  · subst e; simp
  · by_cases e2 : j < k
    · rw [if_pos (by omega), if_neg e, if_pos e2]
    · rw [if_neg (by omega), if_neg e, if_neg e2]
theorem lsK_zero (n : Nat) : lsK n 0 = List.replicate n 0 := by
  unfold lsK
  refine List.ext_getElem? fun j => ?_
  by_cases hj : j < n
  · simp [hj]
  · rw [List.getElem?_eq_none (by simp; omega), List.getElem?_eq_none (by simp; omega)]
theorem lsK_all (n : Nat) : lsK n n = lsOf n (fun _ => 0) := by
  unfold lsK lsOf
  exact List.map_congr_left (fun j hj => by rw [if_pos (List.mem_range.1 hj)]; rfl)
theorem gs_zero (n : Nat) : List.replicate n (0 : Int) = gsOf n (fun _ => 0) := by
  unfold gsOf
  refine List.ext_getElem? fun j => ?_
  by_cases hj : j < n
  · simp [hj]
  · rw [List.getElem?_eq_none (by simp; omega), List.getElem?_eq_none (by simp; omega)]
theorem tdiv_range {x : Int} (h1 : -9223372036854775808 ≤ x) (h2 : x ≤ 9223372036854775807) : -9223372036854775808 ≤ x.tdiv 7 ∧ x.tdiv 7 ≤ 9223372036854775807 := by
  rcases Int.le_total 0 x with h | h
  · rw [Int.tdiv_eq_ediv_of_nonneg h]; omega
  · have e : x.tdiv 7 = -((-x).tdiv 7) := by rw [Int.neg_tdiv]; omega
    rw [e, Int.tdiv_eq_ediv_of_nonneg (by omega)]; omega
theorem upd_upd {α : Type} (f : Nat → α) (k : Nat) (u v : α) : upd (upd f k u) k v = upd f k v := by
  funext j
  by_cases e : j = k
  · subst e; rw [upd_same, upd_same]
  · rw [upd_other _ _ e, upd_other _ _ e, upd_other _ _ e]
theorem bump_other {gen : Nat → Nat} {a j : Nat} (h : j ≠ a) : bump gen a j = gen j := upd_other _ _ h
theorem bump_le {gen : Nat → Nat} {a i : Nat} (h : ∀ j, gen j ≤ i) : ∀ j, bump gen a j ≤ i + 1 := fun j => by
  by_cases e : j = a
  · subst e; unfold bump; rw [upd_same]; have := h j; omega
  · rw [bump_other e]; have := h j; omega
set_option maxHeartbeats 8000000 in
set_option maxRecDepth 100000 in
theorem walk (a0 : Int) (a1 : Option Addr) (len1 cap1 : Nat) (z1 : Nat → Int) (w : World) (w0 : (Lit.int .i64 a0).wf = true) (h1 : InRow w a1 len1 z1) :
    Calls Try.prog 5 #[.int .i64 a0, .slice a1 len1 cap1] w fun e w' => e = .returned (.bool true) ∧ Below w.heap.size w w' := by
  obtain ⟨b1, b2⟩ := bounds_i64 w0
  clear w0
  obtain ⟨N, hN, hN1, hN2⟩ : ∃ K : Nat, 1 + a0 % 20 = K ∧ 1 ≤ K ∧ K ≤ 20 := ⟨(1 + a0 % 20).toNat, by omega, by omega, by omega⟩
  have HP := Lib.hid (fun w => place_any w a0 20 b1 b2 (by omega) (by omega))
  have HI := Lib.hid h1
  have hl0 := h1.1
  have hw1 : IntKind.i64.wrap (1 + a0 % 20) = (N : Int) := by rw [IntWalk.i64_in _ (by omega)]; exact hN
  have HNW := Lib.hid (show Calls Try.prog 9 #[.int .i64 (N : Nat)] w _ from ts_new (C := noC) w N hN1 (by omega) (fun _ e => e.elim))
  obtain ⟨i0, hi, hz0, hz1, hz2⟩ := info_parts Try.infoLong
  have hmk : ∀ u : World, (Instr.makeSlice 50 (.int .i64 (N : Int)) (.int .i64 (N : Int))).run Try.prog u = .ok (.slice (some ⟨u.heap.size, 0, none⟩) N N) (u.alloc (.cells (madeCells #[.int .i64 0] N) 2)) := fun u => by
    have h := run_make (P := Try.prog) u 50 2 i0 (.int .i64 0) Try.underlying50 hi hz0 .i64 .i64 (N : Int) (N : Int) (by omega) (Int.le_refl _) (by rw [hz2]; omega) (by omega)
    rw [hz1] at h
    simpa [Value.cells] using h
  clear b1 b2 h1 hi hz0 hz1 hz2
  go_enter Try.func5, Try.ntmps5
  go_wp2_with fail
  refine (HP.out _).mono ?_
  rintro e w' ⟨rfl, rfl⟩
  clear HP
  go_wp2_with fail
  refine HNW.out.mono ?_
  rintro e w1 ⟨b, rfl, h1, -⟩
  obtain ⟨w2, hw2⟩ : ∃ w2, w1.alloc (.cells (madeCells #[.int .i64 0] N) 2) = w2 := ⟨_, rfl⟩
  obtain ⟨w3, hw3⟩ : ∃ w3, w2.alloc (.cells (madeCells #[.int .i64 0] N) 2) = w3 := ⟨_, rfl⟩
  have HS := Lib.hid (R2.start h1 hN1 (by omega) hw2 hw3)
  clear h1 HNW hw1 hN
  go_wp2_with fail
  obtain ⟨G1, hG1⟩ : ∃ G, w1.heap.size = G := ⟨_, rfl⟩
  obtain ⟨G2, hG2⟩ : ∃ G, w2.heap.size = G := ⟨_, rfl⟩
  rw [hG1, hG2] at HS
  rw [hG1, hG2]
  clear hG1 hG2 hmk hw2 hw3
  go_loopg [10, 11, 12] N (fun gk s10 s11 s12 wr => ∃ (k : Nat) (y11 y12 : Value), k ≤ N ∧ gk = N - k ∧ s10 = .int .i64 (k : Nat) ∧ s11 = y11 ∧ s12 = y12 ∧ Hid (R2 w wr b N (64 * k) G1 G2 (firstN k) (List.replicate N 0) (lsK N k)))
  case atStart => exact ⟨0, _, _, by omega, rfl, rfl, rfl, rfl, Lib.hid (by rw [lsK_zero]; exact HS.out)⟩
  case round =>
    obtain ⟨k, y11, y12, hk, rfl, rfl, rfl, rfl, HR⟩ := hrel
    clear HS
    by_cases hlt : k < N
    · have hli : (k : Int) < N := by omega
      have HA := Lib.hid (show Calls Try.prog 11 #[.pointer (some ⟨b, 0, none⟩)] wr (fun e w' => e = .returned (.tuple #[.int .i64 (k : Nat), .nilIface]) ∧ R2 w w' b N (64 * k + 64) G1 G2 (firstN (k + 1)) (List.replicate N 0) (lsK N k)) from by
        have := r2_add HR.out (by rw [firstN_free]; exact hlt) (by omega)
        rw [firstN_pid, firstN_add] at this
        exact this)
      clear HR
      go_wp2_with fail
      refine HA.out.mono ?_
      rintro e w4 ⟨rfl, h4⟩
      have f4 := h4.fl
      have HL := Lib.hid (h4.setl k (k : Int))
      rw [lsK_set hlt] at HL
      have d4 := h4.lget (k := k) (x := 0) (by unfold lsK; simp [hlt])
      clear h4 HA
      go_wp2_with fail
      go_roundg (N - (k + 1))
      case measure => omega
      case rel => exact ⟨k + 1, _, _, by omega, rfl, by go_num, rfl, rfl, Lib.hid HL.out⟩
    · obtain rfl : N = k := by omega
      have HT : Hid (R2 w wr b N (64 * N) G1 G2 (sgOn N (fun _ => 0) allOn) (gsOf N (fun _ => 0)) (lsOf N (fun _ => 0))) := Lib.hid (by
        have := HR.out
        rw [sgOn_first, lsK_all, gs_zero] at this
        exact this)
      clear HR hlt
      go_wp2_with fail
      go_loopg [13, 14, 15, 16, 17, 18, 19, 20, 21, 22, 23, 24] (min len1 100) (fun gk s13 s14 s15 s16 s17 s18 s19 s20 s21 s22 s23 s24 wx => ∃ (i : Nat) (y14 y15 y16 y17 y18 y19 y20 y21 y22 y23 y24 : Value), i ≤ min len1 100 ∧ gk = min len1 100 - i ∧ s13 = .int .i64 (i : Nat) ∧ s14 = y14 ∧ s15 = y15 ∧ s16 = y16 ∧ s17 = y17 ∧ s18 = y18 ∧ s19 = y19 ∧ s20 = y20 ∧ s21 = y21 ∧ s22 = y22 ∧ s23 = y23 ∧ s24 = y24 ∧
        Hid (∃ gen, (∀ j, gen j ≤ i) ∧ R2 w wx b N (64 * N + 128 * i) G1 G2 (sgOn N gen allOn) (gsOf N gen) (lsOf N gen)))
      case atStart => exact ⟨0, _, _, _, _, _, _, _, _, _, _, _, by omega, rfl, rfl, rfl, rfl, rfl, rfl, rfl, rfl, rfl, rfl, rfl, rfl, rfl, Lib.hid ⟨fun _ => 0, fun _ => Nat.le_refl _, HT.out⟩⟩
      case round =>
        obtain ⟨i, y14, y15, y16, y17, y18, y19, y20, y21, y22, y23, y24, hi, rfl, rfl, rfl, rfl, rfl, rfl, rfl, rfl, rfl, rfl, rfl, rfl, rfl, HB⟩ := hrel
        clear HT
        have hi3 : (i : Int) ≤ 100 := by omega
        obtain ⟨gen, hgen, hR⟩ := HB.out
        have HR := Lib.hid hR
        have HG := Lib.hid hgen
        have HK := Lib.hid hR.ts.kp0
        clear HB hR hgen
        by_cases hlt : i < len1
        · have hli : (i : Int) < len1 := by omega
          by_cases h100 : i < 100
          · have hli2 : (i : Int) < 100 := by omega
            obtain ⟨b0, off0, rfl, c0, c1, c2⟩ := HI.out.at' HK.out i (by omega)
            obtain ⟨x, hx⟩ : ∃ x, z1 i = x := ⟨_, rfl⟩
            rw [hx] at c0 c1 c2
            clear hx
            obtain ⟨t1, t2⟩ := tdiv_range c1 c2
            obtain ⟨y, hy⟩ : ∃ y, x.tdiv 7 = y := ⟨_, rfl⟩
            rw [hy] at t1 t2
            obtain ⟨a, ha, ha2⟩ : ∃ a : Nat, x % N = a ∧ a < N := ⟨(x % N).toNat, by have := Int.emod_nonneg x (b := (N : Int)) (by omega); omega, by have := Int.emod_nonneg x (b := (N : Int)) (by omega); have := Int.emod_lt_of_pos x (b := (N : Int)) (by omega); omega⟩
            obtain ⟨c, hc, hc2⟩ : ∃ c : Nat, y % N = c ∧ c < N := ⟨(y % N).toNat, by have := Int.emod_nonneg y (b := (N : Int)) (by omega); omega, by have := Int.emod_nonneg y (b := (N : Int)) (by omega); have := Int.emod_lt_of_pos y (b := (N : Int)) (by omega); omega⟩
            have HP1 := Lib.hid (fun w => place_any w x N c1 c2 (by omega) (by omega))
            have HP2 := Lib.hid (fun w => place_any w y N t1 t2 (by omega) (by omega))
            rw [ha] at HP1
            rw [hc] at HP2
            have hai : (a : Int) < N := by omega
            have hci : (c : Int) < N := by omega
            clear ha hc
            go_wp2_with fail
            refine (HP1.out _).mono ?_
            rintro e w' ⟨rfl, rfl⟩
            clear HP1
            go_wp2_with fail
            refine (HP2.out _).mono ?_
            rintro e w' ⟨rfl, rfl⟩
            clear HP2 hy c0 c1 c2 t1 t2
            -- the two numbers
            have hga := HG.out a
            have hgc := HG.out c
            have dA := HR.out.lget (lsOf_get ha2)
            obtain ⟨P, hP⟩ : ∃ P : Nat, a + 64 * gen a = P := ⟨_, rfl⟩
            obtain ⟨Q, hQ⟩ : ∃ Q : Nat, c + 64 * gen c = Q := ⟨_, rfl⟩
            have hPm : P % 64 = a := by omega
            have hQm : Q % 64 = c := by omega
            have HD := Lib.hid (show Calls Try.prog 14 #[.pointer (some ⟨b, 0, none⟩), .int .i64 (P : Nat)] _ (fun e w' => ∃ u, e = .returned (.tuple #[u, .nilIface]) ∧ R2 w w' b N (64 * N + 128 * i) G1 G2 (sgOn N gen (upd allOn a false)) (gsOf N gen) (lsOf N gen)) from by
              have := r2_drop HR.out (p := P) (by rw [← hP, sgOn_kind ha2 (by omega)]; rfl)
              rw [hPm, sgOn_drop ha2] at this
              exact this)
            rw [hP] at dA
            have HPQ := Lib.hid (And.intro hP (And.intro hQ (And.intro hPm hQm)))
            clear hP hQ hPm hQm
            go_wp2_with fail
            refine HD.out.mono ?_
            rintro e w4 ⟨u, rfl, h4⟩
            have HR4 := Lib.hid h4
            have dC := h4.lget (lsOf_get hc2)
            rw [HPQ.out.2.1] at dC
            clear h4 HD dA HR
            rcases (by omega : a = c ∨ a < c ∨ c < a) with hac | hac | hac
            · subst hac
              have HD2 := Lib.hid (r2_drop_bad HR4.out (p := Q) (by rw [← HPQ.out.2.1, sgOn_kind ha2 (by omega), upd_same]; decide))
              have hpq : P = Q := by rw [← HPQ.out.1, ← HPQ.out.2.1]
              clear hc2 hci hgc
              go_wp2_with fail
              refine HD2.out.mono ?_
              rintro e w5 ⟨g5, rfl, h5⟩
              obtain ⟨had, hpd⟩ := sgOn_add (gen := gen) (on := upd allOn a false) ha2 (upd_same _ _ _) (fun j hj => upd_other _ _ (by omega))
              have hf1 : freeAt (sgOn N gen (upd allOn a false)) = a := sgOn_free ha2 (upd_same _ _ _) (fun j hj => upd_other _ _ (by omega))
              have HA := Lib.hid (r2_add h5 (by rw [hf1]; exact ha2) (by omega))
              rw [had, hpd, upd_upd] at HA
              clear h5 HD2 had hpd dC HR4 hpq hf1
              go_wp2_with fail
              refine HA.out.mono ?_
              rintro e w6 ⟨rfl, h6⟩
              have dG := h6.gget (gsOf_get ha2)
              have fG := h6.fg
              have h7 := h6.setg a ((gen a + 1 : Nat) : Int)
              rw [gsOf_bump ha2] at h7
              obtain ⟨w7, hw7⟩ : ∃ w7, w6.setCell ⟨G1, a, none⟩ (.int .i64 ((gen a + 1 : Nat) : Int)) = w7 := ⟨_, rfl⟩
              rw [hw7] at h7
              have dG7 := h7.gget (gsOf_get (gen := bump gen a) ha2)
              rw [show bump gen a a = gen a + 1 from upd_same _ _ _] at dG7
              have dL7 := h7.lget (lsOf_get ha2)
              have fL7 := h7.fl
              have h8 := h7.setl a ((a + 64 * (gen a + 1) : Nat) : Int)
              rw [lsOf_bump ha2] at h8
              have H8 : Hid (∃ gen2, (∀ j, gen2 j ≤ i + 1) ∧ R2 w (w7.setCell ⟨G2, a, none⟩ (.int .i64 ((a + 64 * (gen a + 1) : Nat) : Int))) b N (64 * N + 128 * (i + 1)) G1 G2 (sgOn N gen2 allOn) (gsOf N gen2) (lsOf N gen2)) :=
                Lib.hid ⟨bump gen a, bump_le HG.out, by
                  have e1 : sgOn N (bump gen a) (upd allOn a true) = sgOn N (bump gen a) allOn := sgOn_congr (fun _ _ => rfl) (fun j _ => by
                    by_cases e : j = a
                    · subst e; rw [upd_same]; rfl
                    · rw [upd_other _ _ e])
                  rw [e1] at h8
                  exact h8.le (by omega)⟩
              obtain ⟨g, hg⟩ : ∃ g, gen a = g := ⟨_, rfl⟩
              rw [hg] at dG dG7 hw7 H8 hga
              rw [hg]
              have r1 : ((g + 1 : Nat) : Int) = (g : Int) + 1 := rfl
              have r2 : (64 : Int) * ((g : Int) + 1) + a = ((a + 64 * (g + 1) : Nat) : Int) := by omega
              have r3 : (a : Int) + 64 * ((g : Int) + 1) = ((a + 64 * (g + 1) : Nat) : Int) := by omega
              obtain ⟨V, hV⟩ : ∃ V : Nat, a + 64 * (g + 1) = V := ⟨_, rfl⟩
              rw [hV] at r2 r3 H8
              rw [hV]
              rw [r1] at dG7 hw7
              have r4 : (g : Int) ≤ 100 := by omega
              have HV := Lib.hid hV
              clear h6 h7 h8 HA hg hV r1
              go_wp2_with fail
              go_roundg (min len1 100 - (i + 1))
              case measure => omega
              case rel => exact ⟨i + 1, _, _, _, _, _, _, _, _, _, _, _, by omega, rfl, by go_num, rfl, rfl, rfl, rfl, rfl, rfl, rfl, rfl, rfl, rfl, rfl, H8⟩
            · have hne : ((a : Int) == (c : Int)) = false := by rw [beq_eq_false_iff_ne]; omega
              have hne2 : ¬ a = c := by omega
              have hne3 : ¬ (a : Int) = (c : Int) := by omega
              have hne4 : ((a : Int) != (c : Int)) = true := by rw [bne, hne]; rfl
              have HD2 := Lib.hid (r2_drop HR4.out (p := Q) (by rw [← HPQ.out.2.1, sgOn_kind hc2 (by omega), upd_other _ _ (by omega)]; rfl))
              rw [HPQ.out.2.2.2, sgOn_drop hc2] at HD2
              go_wp2_with fail
              refine HD2.out.mono ?_
              rintro e w5 ⟨u5, rfl, h5⟩
              obtain ⟨on2, hon2⟩ : ∃ on2, upd (upd allOn a false) c false = on2 := ⟨_, rfl⟩
              rw [hon2] at h5
              have q1 : on2 a = false := by rw [← hon2]; first | exact upd_same _ _ _ | (rw [upd_other _ _ (by omega)]; exact upd_same _ _ _)
              have q2 : on2 c = false := by rw [← hon2]; first | exact upd_same _ _ _ | (rw [upd_other _ _ (by omega)]; exact upd_same _ _ _)
              have q3 : ∀ j, j ≠ a → j ≠ c → on2 j = true := fun j j1 j2 => by rw [← hon2, upd_other _ _ (by omega), upd_other _ _ (by omega)]; rfl
              clear hon2
              obtain ⟨had, hpd⟩ := sgOn_add (n := N) (a := a) (gen := gen) (on := on2) (by omega) q1 (fun j hj => q3 j (by omega) (by omega))
              have hf1 : freeAt (sgOn N gen on2) = a := sgOn_free (by omega) q1 (fun j hj => q3 j (by omega) (by omega))
              have HA := Lib.hid (r2_add h5 (by rw [hf1]; omega) (by omega))
              rw [had, hpd] at HA
              have HQ := Lib.hid (And.intro q1 (And.intro q2 q3))
              clear h5 HD2 had hpd dC HR4 hf1 q1 q2 q3
              go_wp2_with fail
              refine HA.out.mono ?_
              rintro e w6 ⟨rfl, h6⟩
              have loN : a < N := by omega
              have hiN : c < N := by omega
              have lohi : a ≠ c := by omega
              have dG := h6.gget (gsOf_get loN)
              have fG := h6.fg
              have h7 := h6.setg a ((gen a + 1 : Nat) : Int)
              rw [gsOf_bump loN] at h7
              obtain ⟨w7, hw7⟩ : ∃ w7, w6.setCell ⟨G1, a, none⟩ (.int .i64 ((gen a + 1 : Nat) : Int)) = w7 := ⟨_, rfl⟩
              rw [hw7] at h7
              have dG7 := h7.gget (gsOf_get (gen := bump gen a) loN)
              rw [show bump gen a a = gen a + 1 from upd_same _ _ _] at dG7
              have dL7 := h7.lget (lsOf_get loN)
              have fL7 := h7.fl
              have h8 := h7.setl a ((a + 64 * (gen a + 1) : Nat) : Int)
              rw [lsOf_bump loN] at h8
              obtain ⟨w8, hw8⟩ : ∃ w8, w7.setCell ⟨G2, a, none⟩ (.int .i64 ((a + 64 * (gen a + 1) : Nat) : Int)) = w8 := ⟨_, rfl⟩
              rw [hw8] at h8
              have q4 : upd on2 a true c = false := by rw [upd_other _ _ (Ne.symm lohi)]; exact HQ.out.2.1
              have q5 : ∀ j, j < c → upd on2 a true j = true := fun j hj => by
                by_cases e : j = a
                · rw [e, upd_same]
                · rw [upd_other _ _ e]; exact HQ.out.2.2 j e (by omega)
              obtain ⟨had2, hpd2⟩ := sgOn_add (n := N) (gen := bump gen a) (on := upd on2 a true) hiN q4 q5
              have hf2 : freeAt (sgOn N (bump gen a) (upd on2 a true)) = c := sgOn_free hiN q4 q5
              have HA2 := Lib.hid (r2_add h8 (by rw [hf2]; exact hiN) (by omega))
              rw [had2, hpd2] at HA2
              have ebh : bump gen a c = gen c := bump_other (Ne.symm lohi)
              rw [ebh] at HA2
              have HQ2 := Lib.hid (And.intro q4 q5)
              obtain ⟨g, hg⟩ : ∃ g, gen a = g := ⟨_, rfl⟩
              obtain ⟨g2, hg2⟩ : ∃ g2, gen c = g2 := ⟨_, rfl⟩
              have hgl := HG.out a
              have hgh := HG.out c
              rw [hg] at dG dG7 hw7 hw8 hgl
              rw [hg2] at HA2 hgh
              rw [hg]
              have r1 : ((g + 1 : Nat) : Int) = (g : Int) + 1 := rfl
              have r2 : (64 : Int) * ((g : Int) + 1) + a = ((a + 64 * (g + 1) : Nat) : Int) := by omega
              have r3 : (a : Int) + 64 * ((g : Int) + 1) = ((a + 64 * (g + 1) : Nat) : Int) := by omega
              obtain ⟨V, hV⟩ : ∃ V : Nat, a + 64 * (g + 1) = V := ⟨_, rfl⟩
              rw [hV] at r2 r3 hw8
              rw [hV]
              rw [r1] at dG7 hw7
              have r4 : (g : Int) ≤ 100 := by omega
              have r4b : (g2 : Int) ≤ 100 := by omega
              have r5 : (a : Int) + c - a = c := by omega
              have r6 : ¬ (a : Int) = c := by omega
              have hlt2 : ¬ (c : Int) < a := by omega
              have HV := Lib.hid (And.intro hV (And.intro hg hg2))
              clear h6 h7 h8 HA hg hg2 hV r1 q4 q5 had2 hpd2 hf2 ebh
              go_wp2_with fail
              refine HA2.out.mono ?_
              rintro e w9 ⟨rfl, h9⟩
              have dG := h9.gget (gsOf_get (gen := bump gen a) hiN)
              rw [bump_other (Ne.symm lohi), HV.out.2.2] at dG
              have fG := h9.fg
              have h10 := h9.setg c ((g2 + 1 : Nat) : Int)
              have eb : gsOf N (bump (bump gen a) c) = (gsOf N (bump gen a)).set c ((g2 + 1 : Nat) : Int) := by
                rw [← gsOf_bump hiN, bump_other (Ne.symm lohi), HV.out.2.2]
              rw [← eb] at h10
              obtain ⟨w10, hw10⟩ : ∃ w10, w9.setCell ⟨G1, c, none⟩ (.int .i64 ((g2 + 1 : Nat) : Int)) = w10 := ⟨_, rfl⟩
              rw [hw10] at h10
              have dG10 := h10.gget (gsOf_get (gen := bump (bump gen a) c) hiN)
              rw [show bump (bump gen a) c c = bump gen a c + 1 from upd_same _ _ _, bump_other (Ne.symm lohi), HV.out.2.2] at dG10
              have dL10 := h10.lget (lsOf_get (gen := bump gen a) hiN)
              have fL10 := h10.fl
              have h11 := h10.setl c ((c + 64 * (g2 + 1) : Nat) : Int)
              have el : lsOf N (bump (bump gen a) c) = (lsOf N (bump gen a)).set c ((c + 64 * (g2 + 1) : Nat) : Int) := by
                rw [← lsOf_bump hiN, bump_other (Ne.symm lohi), HV.out.2.2]
              rw [← el] at h11
              have H8 : Hid (∃ gen2, (∀ j, gen2 j ≤ i + 1) ∧ R2 w (w10.setCell ⟨G2, c, none⟩ (.int .i64 ((c + 64 * (g2 + 1) : Nat) : Int))) b N (64 * N + 128 * (i + 1)) G1 G2 (sgOn N gen2 allOn) (gsOf N gen2) (lsOf N gen2)) :=
                Lib.hid ⟨bump (bump gen a) c, fun j => by
                    by_cases e : j = c
                    · rw [e, show bump (bump gen a) c c = bump gen a c + 1 from upd_same _ _ _, bump_other (Ne.symm lohi)]; have := HG.out c; omega
                    · rw [bump_other e]; exact bump_le HG.out j, by
                  have e1 : sgOn N (bump (bump gen a) c) (upd (upd on2 a true) c true) = sgOn N (bump (bump gen a) c) allOn := sgOn_congr (fun _ _ => rfl) (fun j _ => by
                    by_cases e : j = c
                    · rw [e, upd_same]; rfl
                    · rw [upd_other _ _ e]
                      by_cases e2 : j = a
                      · rw [e2, upd_same]; rfl
                      · rw [upd_other _ _ e2]; exact HQ.out.2.2 j e2 e)
                  rw [e1] at h11
                  exact h11.le (by omega)⟩
              have r1 : ((g2 + 1 : Nat) : Int) = (g2 : Int) + 1 := rfl
              have s2 : (64 : Int) * ((g2 : Int) + 1) + c = ((c + 64 * (g2 + 1) : Nat) : Int) := by omega
              have s3 : (c : Int) + 64 * ((g2 : Int) + 1) = ((c + 64 * (g2 + 1) : Nat) : Int) := by omega
              obtain ⟨V2, hV2⟩ : ∃ V2 : Nat, c + 64 * (g2 + 1) = V2 := ⟨_, rfl⟩
              rw [hV2] at s2 s3 H8
              rw [hV2]
              rw [r1] at dG10 hw10
              have HV2 := Lib.hid hV2
              clear h9 h10 h11 HA2 hV2 r1 eb el
              go_wp2_with fail
              go_roundg (min len1 100 - (i + 1))
              case measure => omega
              case rel => exact ⟨i + 1, _, _, _, _, _, _, _, _, _, _, _, by omega, rfl, by go_num, rfl, rfl, rfl, rfl, rfl, rfl, rfl, rfl, rfl, rfl, rfl, H8⟩
            · have hne : ((a : Int) == (c : Int)) = false := by rw [beq_eq_false_iff_ne]; omega
              have hne2 : ¬ a = c := by omega
              have hne3 : ¬ (a : Int) = (c : Int) := by omega
              have hne4 : ((a : Int) != (c : Int)) = true := by rw [bne, hne]; rfl
              have HD2 := Lib.hid (r2_drop HR4.out (p := Q) (by rw [← HPQ.out.2.1, sgOn_kind hc2 (by omega), upd_other _ _ (by omega)]; rfl))
              rw [HPQ.out.2.2.2, sgOn_drop hc2] at HD2
              go_wp2_with fail
              refine HD2.out.mono ?_
              rintro e w5 ⟨u5, rfl, h5⟩
              obtain ⟨on2, hon2⟩ : ∃ on2, upd (upd allOn a false) c false = on2 := ⟨_, rfl⟩
              rw [hon2] at h5
              have q1 : on2 c = false := by rw [← hon2]; first | exact upd_same _ _ _ | (rw [upd_other _ _ (by omega)]; exact upd_same _ _ _)
              have q2 : on2 a = false := by rw [← hon2]; first | exact upd_same _ _ _ | (rw [upd_other _ _ (by omega)]; exact upd_same _ _ _)
              have q3 : ∀ j, j ≠ c → j ≠ a → on2 j = true := fun j j1 j2 => by rw [← hon2, upd_other _ _ (by omega), upd_other _ _ (by omega)]; rfl
              clear hon2
              obtain ⟨had, hpd⟩ := sgOn_add (n := N) (a := c) (gen := gen) (on := on2) (by omega) q1 (fun j hj => q3 j (by omega) (by omega))
              have hf1 : freeAt (sgOn N gen on2) = c := sgOn_free (by omega) q1 (fun j hj => q3 j (by omega) (by omega))
              have HA := Lib.hid (r2_add h5 (by rw [hf1]; omega) (by omega))
              rw [had, hpd] at HA
              have HQ := Lib.hid (And.intro q1 (And.intro q2 q3))
              clear h5 HD2 had hpd dC HR4 hf1 q1 q2 q3
              go_wp2_with fail
              refine HA.out.mono ?_
              rintro e w6 ⟨rfl, h6⟩
              have loN : c < N := by omega
              have hiN : a < N := by omega
              have lohi : c ≠ a := by omega
              have dG := h6.gget (gsOf_get loN)
              have fG := h6.fg
              have h7 := h6.setg c ((gen c + 1 : Nat) : Int)
              rw [gsOf_bump loN] at h7
              obtain ⟨w7, hw7⟩ : ∃ w7, w6.setCell ⟨G1, c, none⟩ (.int .i64 ((gen c + 1 : Nat) : Int)) = w7 := ⟨_, rfl⟩
              rw [hw7] at h7
              have dG7 := h7.gget (gsOf_get (gen := bump gen c) loN)
              rw [show bump gen c c = gen c + 1 from upd_same _ _ _] at dG7
              have dL7 := h7.lget (lsOf_get loN)
              have fL7 := h7.fl
              have h8 := h7.setl c ((c + 64 * (gen c + 1) : Nat) : Int)
              rw [lsOf_bump loN] at h8
              obtain ⟨w8, hw8⟩ : ∃ w8, w7.setCell ⟨G2, c, none⟩ (.int .i64 ((c + 64 * (gen c + 1) : Nat) : Int)) = w8 := ⟨_, rfl⟩
              rw [hw8] at h8
              have q4 : upd on2 c true a = false := by rw [upd_other _ _ (Ne.symm lohi)]; exact HQ.out.2.1
              have q5 : ∀ j, j < a → upd on2 c true j = true := fun j hj => by
                by_cases e : j = c
                · rw [e, upd_same]
                · rw [upd_other _ _ e]; exact HQ.out.2.2 j e (by omega)
              obtain ⟨had2, hpd2⟩ := sgOn_add (n := N) (gen := bump gen c) (on := upd on2 c true) hiN q4 q5
              have hf2 : freeAt (sgOn N (bump gen c) (upd on2 c true)) = a := sgOn_free hiN q4 q5
              have HA2 := Lib.hid (r2_add h8 (by rw [hf2]; exact hiN) (by omega))
              rw [had2, hpd2] at HA2
              have ebh : bump gen c a = gen a := bump_other (Ne.symm lohi)
              rw [ebh] at HA2
              have HQ2 := Lib.hid (And.intro q4 q5)
              obtain ⟨g, hg⟩ : ∃ g, gen c = g := ⟨_, rfl⟩
              obtain ⟨g2, hg2⟩ : ∃ g2, gen a = g2 := ⟨_, rfl⟩
              have hgl := HG.out c
              have hgh := HG.out a
              rw [hg] at dG dG7 hw7 hw8 hgl
              rw [hg2] at HA2 hgh
              rw [hg]
              have r1 : ((g + 1 : Nat) : Int) = (g : Int) + 1 := rfl
              have r2 : (64 : Int) * ((g : Int) + 1) + c = ((c + 64 * (g + 1) : Nat) : Int) := by omega
              have r3 : (c : Int) + 64 * ((g : Int) + 1) = ((c + 64 * (g + 1) : Nat) : Int) := by omega
              obtain ⟨V, hV⟩ : ∃ V : Nat, c + 64 * (g + 1) = V := ⟨_, rfl⟩
              rw [hV] at r2 r3 hw8
              rw [hV]
              rw [r1] at dG7 hw7
              have r4 : (g : Int) ≤ 100 := by omega
              have r4b : (g2 : Int) ≤ 100 := by omega
              have r5 : (a : Int) + c - c = a := by omega
              have r6 : ¬ (a : Int) = c := by omega
              have hlt2 : (c : Int) < a := by omega
              have HV := Lib.hid (And.intro hV (And.intro hg hg2))
              clear h6 h7 h8 HA hg hg2 hV r1 q4 q5 had2 hpd2 hf2 ebh
              go_wp2_with fail
              refine HA2.out.mono ?_
              rintro e w9 ⟨rfl, h9⟩
              have dG := h9.gget (gsOf_get (gen := bump gen c) hiN)
              rw [bump_other (Ne.symm lohi), HV.out.2.2] at dG
              have fG := h9.fg
              have h10 := h9.setg a ((g2 + 1 : Nat) : Int)
              have eb : gsOf N (bump (bump gen c) a) = (gsOf N (bump gen c)).set a ((g2 + 1 : Nat) : Int) := by
                rw [← gsOf_bump hiN, bump_other (Ne.symm lohi), HV.out.2.2]
              rw [← eb] at h10
              obtain ⟨w10, hw10⟩ : ∃ w10, w9.setCell ⟨G1, a, none⟩ (.int .i64 ((g2 + 1 : Nat) : Int)) = w10 := ⟨_, rfl⟩
              rw [hw10] at h10
              have dG10 := h10.gget (gsOf_get (gen := bump (bump gen c) a) hiN)
              rw [show bump (bump gen c) a a = bump gen c a + 1 from upd_same _ _ _, bump_other (Ne.symm lohi), HV.out.2.2] at dG10
              have dL10 := h10.lget (lsOf_get (gen := bump gen c) hiN)
              have fL10 := h10.fl
              have h11 := h10.setl a ((a + 64 * (g2 + 1) : Nat) : Int)
              have el : lsOf N (bump (bump gen c) a) = (lsOf N (bump gen c)).set a ((a + 64 * (g2 + 1) : Nat) : Int) := by
                rw [← lsOf_bump hiN, bump_other (Ne.symm lohi), HV.out.2.2]
              rw [← el] at h11
              have H8 : Hid (∃ gen2, (∀ j, gen2 j ≤ i + 1) ∧ R2 w (w10.setCell ⟨G2, a, none⟩ (.int .i64 ((a + 64 * (g2 + 1) : Nat) : Int))) b N (64 * N + 128 * (i + 1)) G1 G2 (sgOn N gen2 allOn) (gsOf N gen2) (lsOf N gen2)) :=
                Lib.hid ⟨bump (bump gen c) a, fun j => by
                    by_cases e : j = a
                    · rw [e, show bump (bump gen c) a a = bump gen c a + 1 from upd_same _ _ _, bump_other (Ne.symm lohi)]; have := HG.out a; omega
                    · rw [bump_other e]; exact bump_le HG.out j, by
                  have e1 : sgOn N (bump (bump gen c) a) (upd (upd on2 c true) a true) = sgOn N (bump (bump gen c) a) allOn := sgOn_congr (fun _ _ => rfl) (fun j _ => by
                    by_cases e : j = a
                    · rw [e, upd_same]; rfl
                    · rw [upd_other _ _ e]
                      by_cases e2 : j = c
                      · rw [e2, upd_same]; rfl
                      · rw [upd_other _ _ e2]; exact HQ.out.2.2 j e2 e)
                  rw [e1] at h11
                  exact h11.le (by omega)⟩
              have r1 : ((g2 + 1 : Nat) : Int) = (g2 : Int) + 1 := rfl
              have s2 : (64 : Int) * ((g2 : Int) + 1) + a = ((a + 64 * (g2 + 1) : Nat) : Int) := by omega
              have s3 : (a : Int) + 64 * ((g2 : Int) + 1) = ((a + 64 * (g2 + 1) : Nat) : Int) := by omega
              obtain ⟨V2, hV2⟩ : ∃ V2 : Nat, a + 64 * (g2 + 1) = V2 := ⟨_, rfl⟩
              rw [hV2] at s2 s3 H8
              rw [hV2]
              rw [r1] at dG10 hw10
              have HV2 := Lib.hid hV2
              clear h9 h10 h11 HA2 hV2 r1 eb el
              go_wp2_with fail
              go_roundg (min len1 100 - (i + 1))
              case measure => omega
              case rel => exact ⟨i + 1, _, _, _, _, _, _, _, _, _, _, _, by omega, rfl, by go_num, rfl, rfl, rfl, rfl, rfl, rfl, rfl, rfl, rfl, rfl, rfl, H8⟩
          · have hli2 : ¬ (i : Int) < 100 := by omega
            have HAL := Lib.hid (ts_all HR.out.ts)
            go_wp2_with fail
            refine HAL.out.mono ?_
            rintro e w4 ⟨va, rfl, hva, -, hk4⟩
            rw [livesOf_sgOn] at hva
            have hlr := HR.out.lr.same hk4
            rw [HR.out.ll] at hlr
            have HSL := Lib.hid (sameLongs_any hva.rd hlr.rd)
            have H4 := Lib.hid (HK.out.trans' hk4)
            clear hva hlr hk4 HAL
            go_wp2_with fail
            refine HSL.out.mono ?_
            rintro e w5 ⟨rfl, m5, hm5⟩
            have H5 : Hid (Kp (fun _ => False) w w5) := Lib.hid (by rw [hm5]; exact kp_drewN H4.out m5)
            clear hm5 HSL H4
            go_wp2_with fail
            refine (tbAwake_any _).mono ?_
            rintro e w9 ⟨rfl, hk9⟩
            have H9 := Lib.hid (H5.out.trans' hk9)
            clear hk9
            go_wp2_with fail
            go_ret
            exact ⟨rfl, H9.out.below _ (Nat.le_refl _) (fun _ e => e.elim)⟩
        · have hli : ¬ (i : Int) < len1 := by omega
          have HAL := Lib.hid (ts_all HR.out.ts)
          go_wp2_with fail
          refine HAL.out.mono ?_
          rintro e w4 ⟨va, rfl, hva, -, hk4⟩
          rw [livesOf_sgOn] at hva
          have hlr := HR.out.lr.same hk4
          rw [HR.out.ll] at hlr
          have HSL := Lib.hid (sameLongs_any hva.rd hlr.rd)
          have H4 := Lib.hid (HK.out.trans' hk4)
          clear hva hlr hk4 HAL
          go_wp2_with fail
          refine HSL.out.mono ?_
          rintro e w5 ⟨rfl, m5, hm5⟩
          have H5 : Hid (Kp (fun _ => False) w w5) := Lib.hid (by rw [hm5]; exact kp_drewN H4.out m5)
          clear hm5 HSL H4
          go_wp2_with fail
          refine (tbAwake_any _).mono ?_
          rintro e w9 ⟨rfl, hk9⟩
          have H9 := Lib.hid (H5.out.trans' hk9)
          clear hk9
          go_wp2_with fail
          go_ret
          exact ⟨rfl, H9.out.below _ (Nat.le_refl _) (fun _ e => e.elim)⟩

set_option maxRecDepth 100000 in
theorem lifted (os : Os) (started : os.Started) (H : Type) (enc : TypeId × Value → H) :
    ReturnsInHanded {} Try.checked os 5 .any (Rows.tableSlotsSpec.pre6 enc Try.prog Try.f5 Rows.tableSlotsRow.domain false) (Rows.tableSlotsSpec.post enc Try.prog Try.f5 false true false false) := by
  refine returnsInHanded_of_change (C := Try.checked) own started (by kernel_rfl) Try.func5
    (ChangeSpec.witness6 (enc := enc) (C := Try.checked) false ⟨#[], #[.int .i64 0, .slice none 0 0], []⟩ 8 (by kernel_rfl) (by kernel_rfl) (by kernel_rfl) (by kernel_rfl)) ?_
  intro W base args ds gs before hval0 hW hcnd _
  have hval : ∀ (j : Nat) t v, Try.f5.params[j]? = some t → args[j]? = some v → Value.okWide Try.prog W .any base t v := hval0
  have hW' := hW
  obtain ⟨p, q, hA0, hV, rfl, hfz, hnd⟩ := hW
  have hA : DataW.TrodAll enc Try.prog W 0 (fun _ => true) true Try.f5.params.toList args.toList ds p := hA0
  rw [Try.params5] at hA hval
  obtain ⟨v0, vs0, d0, ds0, p0, q0, hargs, rfl, rfl, h0, r0⟩ := trodAll_cons hA
  obtain ⟨v1, vs1, d1, ds1, p1, q1, rfl, rfl, rfl, h1, r1⟩ := trodAll_cons r0
  obtain ⟨rfl, rfl, rfl⟩ := trodAll_nil r1
  obtain rfl : args = #[v0, v1] := by cases args; simp_all
  obtain ⟨rfl, rfl⟩ := trodVars_none hV
  obtain ⟨a0, rfl, rfl, rfl, w0⟩ := open_int Try.underlying3 (hval 0 3 v0 rfl rfl) h0
  obtain ⟨a1, len1, cap1, rfl⟩ := okWide_slice Try.underlying49 (hval 1 49 v1 rfl rfl)
  have k1 := h1
  have lt1 : ∀ x ∈ p1, x.block < W.heap.size := by obtain ⟨m, hm⟩ := k1; exact DataW.trod_lt m _ _ _ hm
  obtain ⟨z1, w1⟩ : ∃ zs : Nat → Int, InRow W a1 len1 zs := by
    obtain ⟨fuel, hf⟩ := h1
    rcases open_ints Try.underlying49 Try.underlying3 (by kernel_rfl) hf with ⟨hcs, _⟩ | ⟨x, l, c, zs, hcs, _, hl, hm, hz, _, hcell, hwz⟩
    · simp [Value.cells] at hcs
      obtain ⟨rfl, rfl, rfl⟩ := hcs
      exact ⟨fun _ => 0, by unfold InRow; exact ⟨by omega, fun k hk => by omega⟩⟩
    · simp [Value.cells] at hcs
      obtain ⟨rfl, rfl, rfl⟩ := hcs
      exact ⟨_, inRow_of (zs := zs) (.inr ⟨_, rfl, hl, hm, by simpa using hz, hcell, hwz⟩)⟩
  clear hA0 hval0
  simp only [List.nil_append] at hW'
  refine (walk a0 a1 len1 cap1 z1 W w0 w1).mono fun e W' ⟨he, bel⟩ => ?_
  subst he
  exact ⟨_, rfl, _, _, _, [], _, [], hW', trodAll_mk1 (shut_bool Try.underlying4 _), (trodAll_cons_mk (shut_int Try.underlying3 w0) (trodAll_cons_mk (Below.trod laidOut (by kernel_rfl) (of_decide_eq_true (by kernel_rfl)) k1 bel lt1) trodAll_mk0)), rfl, bel.frame _, fun h => by cases h⟩

theorem over : Rows.tableSlotsRow.holds Try.pinned (OpenSpec.ofChange Rows.tableSlotsSpec) :=
  OpenClaim.holds_of_wide 5 Try.f5 rfl rfl rfl rfl rfl rfl rfl ⟨rfl, rfl, rfl, rfl, rfl⟩ rfl rfl rfl rfl rfl (by kernel_rfl) Try.func5 (by kernel_rfl)
    (of_decide_eq_true (by kernel_rfl)) (by unfold Func.isWrapper; first | (rw [if_pos (by decide +kernel)]; kernel_rfl) | (rw [if_neg (by decide +kernel)]; exact ⟨rfl, rfl⟩))
    (fun os started H enc _ => lifted os started H enc)

theorem proved : Rows.TableSlotsSaid := over
#print axioms proved
end Go.Proofs.Ytdcmdidikengbaa.tableSlots
