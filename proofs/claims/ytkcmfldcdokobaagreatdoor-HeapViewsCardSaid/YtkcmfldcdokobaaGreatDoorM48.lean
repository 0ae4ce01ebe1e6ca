/- HeapViews: the walk itself. -/
import Derived.Test.YtkcmfldcdokobaaGreatDoorM41
import Derived.Test.YtkcmfldcdokobaaGreatDoorM47
/- HeapViews: the walk itself. -/
namespace Go.Proofs.YtkcmfldcdokobaaGreatDoor
open Go.RowKit Go.Maps

section
variable {w0 w : World} {col : Nat → Nat} {hb ab tb bb least o : Nat} {sv : Value} {sl : List (Int × Bool)} {x : Option Addr}
def Cells3 (W : World) (o hb ab bb : Nat) : Prop := W.cell? ⟨o, 0, none⟩ = some (.pointer (some ⟨hb, 0, none⟩)) ∧ W.cell? ⟨o, 2, none⟩ = some (.pointer (some ⟨bb, 0, none⟩)) ∧ W.cell? ⟨hb, 0, none⟩ = some (.pointer (some ⟨ab, 0, none⟩))
theorem VSt.box {bs : List UInt8} {W : Nat → List Int} {n c M : Nat} {w1 : World} (hS : VSt w0 w col hb ab tb bb sv least sl bs W n c M w1) (hB : BoxAt w col o hb bb x) : Cells3 w1 o hb ab bb := by
  obtain ⟨col1, A1, a1, g1, _, _, h1⟩ := hS
  have := hB.go g1
  exact ⟨cell_of this.box 0, cell_of this.box 2, h1.hr.cells.1⟩
theorem LSt.box {bs : List UInt8} {wd : List Int} {M : Nat} {w1 : World} (hS : LSt w0 w col hb ab tb bb sv least sl bs wd M w1) (hB : BoxAt w col o hb bb x) : Cells3 w1 o hb ab bb := by
  obtain ⟨col1, A1, a1, g1, _, h1⟩ := hS
  have := hB.go g1
  exact ⟨cell_of this.box 0, cell_of this.box 2, h1.hr.cells.1⟩
theorem ESt.box {M : Nat} {w1 : World} (hS : ESt w0 w col hb ab tb bb sv least sl M w1) (hB : BoxAt w col o hb bb x) : Cells3 w1 o hb ab bb := by
  obtain ⟨col1, A1, a1, g1, _, _, h1⟩ := hS
  have := hB.go g1
  exact ⟨cell_of this.box 0, cell_of this.box 2, h1.hr.cells.1⟩
theorem ESt.useds {M : Nat} {w1 : World} (hS : ESt w0 w col hb ab tb bb sv least sl M w1) :
    Calls Tryz.prog 25 #[.pointer (some ⟨bb, 0, none⟩)] w1 (fun e w' => e = .returned (.int .i64 0) ∧ w1 = w') ∧ Calls Tryz.prog 27 #[.pointer (some ⟨ab, 0, none⟩)] w1 (fun e w' => e = .returned (.int .i64 0) ∧ w1 = w') := by
  obtain ⟨col1, A1, a1, g1, u1, u2, h1⟩ := hS
  obtain ⟨ss, fs, ps, hB⟩ := h1.bn
  have q1 := used_any hB
  have q2 := arUsed_any h1.ar.rep
  rw [u2] at q1
  rw [u1] at q2
  exact ⟨q1, q2⟩
theorem VSt.kp {bs : List UInt8} {W : Nat → List Int} {n c M : Nat} {w1 : World} (hS : VSt w0 w col hb ab tb bb sv least sl bs W n c M w1) : Kp (fun _ => False) w0 w1 := by
  obtain ⟨col1, A1, a1, g1, _, _, h1⟩ := hS
  exact h1.kp
theorem LSt.kp {bs : List UInt8} {wd : List Int} {M : Nat} {w1 : World} (hS : LSt w0 w col hb ab tb bb sv least sl bs wd M w1) : Kp (fun _ => False) w0 w1 := by
  obtain ⟨col1, A1, a1, g1, _, h1⟩ := hS
  exact h1.kp
theorem ESt.kp {M : Nat} {w1 : World} (hS : ESt w0 w col hb ab tb bb sv least sl M w1) : Kp (fun _ => False) w0 w1 := by
  obtain ⟨col1, A1, a1, g1, _, _, h1⟩ := hS
  exact h1.kp
end

set_option maxHeartbeats 4000000 in
set_option maxRecDepth 100000 in
theorem views_walk (a0 : Option Addr) (len0 cap0 : Nat) (z0 : Nat → UInt8) (x1 x2 x3 : Int) (w : World) (h0 : BIn w a0 len0 cap0 z0) (r1 : -9223372036854775808 ≤ x1 ∧ x1 ≤ 9223372036854775807) (r2 : -9223372036854775808 ≤ x2 ∧ x2 ≤ 9223372036854775807) (r3 : -9223372036854775808 ≤ x3 ∧ x3 ≤ 9223372036854775807) (hg : Laid0 w) :
    Calls Tryz.prog 4 #[.slice a0 len0 cap0, .int .i64 x1, .int .i64 x2, .int .i64 x3] w fun e w' => e = .returned (.bool true) ∧ Kp (fun _ => False) w w' := by
  have HI := Lib.hid (And.intro h0 (And.intro r1 (And.intro r2 (And.intro r3 hg))))
  have hc0 := h0.1
  have hc1 := h0.2.1
  clear h0 r1 r2 r3 hg
  go_enter Tryz.func4, Tryz.ntmps4
  go_upto_if 23 with (fail)
  go_cut [0] (fun s0 wx => ∃ L : Nat, s0 = .slice a0 L cap0 ∧ L ≤ 1000 ∧ L ≤ len0 ∧ wx = w)
  case first =>
    by_cases hbig : 1000 < len0
    · have hbi : (1000 : Int) < len0 := by omega
      have hbc : (1000 : Int) ≤ cap0 := by omega
      obtain ⟨b, off, rfl, _⟩ := HI.out.1.2.2 0 (by omega)
      go_wp2_with fail
      go_meet
      exact ⟨1000, rfl, Nat.le_refl _, by omega, rfl⟩
    · have hbi : ¬ (1000 : Int) < len0 := by omega
      go_wp2_with fail
      go_meet
      exact ⟨len0, rfl, by omega, Nat.le_refl _, rfl⟩
  case rest =>
  obtain ⟨L, rfl, hL, hLl, hwc⟩ := hcut
  have hwc' := hwc.symm
  subst hwc'
  clear hwc
  obtain ⟨bs, hbs⟩ : ∃ bs, bl z0 L = bs := ⟨_, rfl⟩
  have hbl : bs.length = L := by rw [← hbs]; exact bl_len _ _
  have hv := HI.out.1.at' (m := L) (c := cap0) hLl (by omega) (by omega)
  rw [hbs] at hv
  obtain ⟨f, hf, hf1⟩ : ∃ f : Nat, (f : Int) = x1 % ((L : Int) + 1) ∧ f ≤ L := by
    have h1 := Int.emod_nonneg x1 (b := (L : Int) + 1) (by omega)
    have h2 := Int.emod_lt_of_pos x1 (b := (L : Int) + 1) (by omega)
    exact ⟨(x1 % ((L : Int) + 1)).toNat, by omega, by omega⟩
  obtain ⟨m, hm, hm1⟩ : ∃ m : Nat, (m : Int) = x2 % ((L : Int) - f + 1) ∧ f + m ≤ L := by
    have h1 := Int.emod_nonneg x2 (b := (L : Int) - f + 1) (by omega)
    have h2 := Int.emod_lt_of_pos x2 (b := (L : Int) - f + 1) (by omega)
    exact ⟨(x2 % ((L : Int) - f + 1)).toNat, by omega, by omega⟩
  obtain ⟨k, hk, hk1⟩ : ∃ k : Nat, (k : Int) = x3 % ((m : Int) + 1) ∧ k ≤ m := by
    have h1 := Int.emod_nonneg x3 (b := (m : Int) + 1) (by omega)
    have h2 := Int.emod_lt_of_pos x3 (b := (m : Int) + 1) (by omega)
    exact ⟨(x3 % ((m : Int) + 1)).toNat, by omega, by omega⟩
  obtain ⟨d, hd, hd1⟩ : ∃ d : Nat, (d : Int) = (m : Int) - k ∧ k + d = m := ⟨m - k, by omega, by omega⟩
  obtain ⟨W, hW0, hW1, hW2⟩ : ∃ W : Nat → List Int, W 0 = [103, 0 * 8 + 6, ((0 : Nat) : Int), (bs.length : Int)] ∧ W 1 = [103, 0 * 8 + 6, (f : Int), (m : Int)] ∧ W 2 = [103, 0 * 8 + 6, ((f + k : Nat) : Int), (d : Int)] := ⟨fun j => if j = 0 then [103, 0 * 8 + 6, ((0 : Nat) : Int), (bs.length : Int)] else if j = 1 then [103, 0 * 8 + 6, (f : Int), (m : Int)] else [103, 0 * 8 + 6, ((f + k : Nat) : Int), (d : Int)], rfl, rfl, rfl⟩
  have hp1 := fun W => place_any W x1 ((L : Int) + 1) HI.out.2.1.1 HI.out.2.1.2 (by omega) (by omega)
  have hp2 := fun W => place_any W x2 ((L : Int) - f + 1) HI.out.2.2.1.1 HI.out.2.2.1.2 (by omega) (by omega)
  have hp3 := fun W => place_any W x3 ((m : Int) + 1) HI.out.2.2.2.1.1 HI.out.2.2.2.1.2 (by omega) (by omega)
  simp only [← hf] at hp1
  simp only [← hm] at hp2
  simp only [← hk] at hp3
  have HP := Lib.hid (And.intro hp1 (And.intro hp2 hp3))
  have HW := Lib.hid (And.intro hW0 (And.intro hW1 (And.intro hW2 (And.intro hbl (And.intro hv (And.intro hd hd1))))))
  clear hp1 hp2 hp3 hW0 hW1 hW2 hbl hv hf hm hk hbs hd
  go_wp2_with fail
  refine (great_any w).mono ?_
  rintro e w1 ⟨o, hb, ab, tb, bb, xb, col, rfl, q1, q2, q3⟩
  have hB := BoxAt.mk q1.box q2
  have hcb := copy_bin q3 HI.out.2.2.2.2 (by have := HW.out.2.2.2.1; omega) W HW.out.1 (bytes_kp HW.out.2.2.2.2.1 q3.kp (fun _ _ e => e))
  have e0 := cell_of q1.box 0
  have H1 := Lib.hid (And.intro hcb hB)
  clear hcb hB q1 q2 q3
  go_upto_region 6 with (fail)
  go_cut [11, 12] (fun s11 s12 wx => s11 = .int .u64 13 ∧ s12 = .nilIface ∧ VSt w w1 col hb ab tb bb (.slice none 0 0) 0 [] bs W 1 1 3000001 wx)
  case first =>
    go_region_with (first
      | (go_at_call 23; refine (H1.out.1 _ (by first | exact Kp.refl _ _ | exact kp_drewN _ _ _ | exact (Kp.refl _ _).drew)).mono ?_; rintro e w2 ⟨po, len, cap, rfl, hk2, hst⟩; have e0b := (hk2.cell (World.block_lt_of_cell? _ _ e0) (fun e => e)).trans e0; have Hst := Lib.hid hst; clear hst)
      | (go_at_call 14; refine (Hst.out _ (by first | exact Kp.refl _ _ | exact kp_drewN _ _ _ | exact (Kp.refl _ _).drew)).mono ?_; rintro e w3 ⟨rfl, hS⟩; have HS := Lib.hid hS; clear hS))
    all_goals (first | (go_wp2_with fail; go_meet; exact ⟨rfl, rfl, HS.out⟩) | (simp [Act.put]; go_wp2_with fail; go_meet; exact ⟨rfl, rfl, HS.out⟩))
  case rest =>
    obtain ⟨rfl, rfl, hS⟩ := hcut
    obtain ⟨e1, e2, e3⟩ := hS.box H1.out.2
    have hL' := HW.out.2.2.2.1
    have hv1 : Calls Tryz.prog 24 #[.pointer (some ⟨hb, 0, none⟩), .int .u64 13, .int .i64 f, .int .i64 m] wc fun e w' => e = .returned (.tuple #[.int .u64 77, .nilIface]) ∧ VSt w w1 col hb ab tb bb (.slice none 0 0) 0 [] bs W 2 2 3000002 w' :=
      hS.view (n := 0) (j := 0) (by omega) (by omega) (by omega) (by omega) 0 bs.length HW.out.1 (by omega) f m (by omega) (by simpa using HW.out.2.1)
    have H2 := Lib.hid (And.intro hv1 hS)
    clear hv1 hS e0 hL'
    go_wp2_with fail
    refine (HP.out.1 _).mono ?_
    rintro e w' ⟨rfl, rfl⟩
    go_wp2_with fail
    refine (HP.out.2.1 _).mono ?_
    rintro e w' ⟨rfl, rfl⟩
    go_wp2_with fail
    refine H2.out.1.mono ?_
    rintro e w2 ⟨rfl, hS2⟩
    obtain ⟨e01, e02, e03⟩ := hS2.box H1.out.2
    have hu2 := hS2.used
    rw [HW.out.2.2.2.1] at hu2
    have hv2 : Calls Tryz.prog 24 #[.pointer (some ⟨hb, 0, none⟩), .int .u64 77, .int .i64 k, .int .i64 ((m : Int) - k)] w2 fun e w' => e = .returned (.tuple #[.int .u64 141, .nilIface]) ∧ VSt w w1 col hb ab tb bb (.slice none 0 0) 0 [] bs W 3 3 3000003 w' := by
      have := hS2.view (n := 1) (j := 1) (by omega) (by omega) (by omega) (by have := HW.out.2.2.2.1; omega) f m HW.out.2.1 (by have := HW.out.2.2.2.1; omega) k d (by have := HW.out.2.2.2.2.2.2; omega) (by simpa using HW.out.2.2.1)
      rw [HW.out.2.2.2.2.2.1] at this
      exact this
    have H3 := Lib.hid (And.intro hu2 (And.intro hv2 hS2))
    clear hu2 hv2 hS2 e1 e2 e3 H2
    go_wp2_with fail
    refine H3.out.1.mono ?_
    rintro e w' ⟨rfl, rfl⟩
    go_wp2_with fail
    refine (HP.out.2.2 _).mono ?_
    rintro e w' ⟨rfl, rfl⟩
    go_wp2_with fail
    refine H3.out.2.1.mono ?_
    rintro e w3 ⟨rfl, hS3⟩
    obtain ⟨e1, e2, e3⟩ := hS3.box H1.out.2
    have hov : Calls Tryz.prog 24 #[.pointer (some ⟨hb, 0, none⟩), .int .u64 77, .int .i64 k, .int .i64 ((m : Int) - k + 1)] w3 fun e w' => (∃ g, e = .returned (.tuple #[.int .u64 0, .iface 95 (.pointer (some ⟨g, 0, none⟩))])) ∧ VSt w w1 col hb ab tb bb (.slice none 0 0) 0 [] bs W 3 3 3000003 w' := by
      have := hS3.over (j := 1) (by omega) (by have := HW.out.2.2.2.1; omega) f m HW.out.2.1 (by have := HW.out.2.2.2.1; omega) k (d + 1) (by have := HW.out.2.2.2.2.2.2; omega) (by omega) (by have := HW.out.2.2.2.2.2.2; omega)
      rw [show ((d + 1 : Nat) : Int) = (m : Int) - k + 1 by have := HW.out.2.2.2.2.2.1; omega] at this
      exact this
    have H4 := Lib.hid (And.intro hov hS3)
    clear hov hS3 e01 e02 e03 H3
    go_wp2_with fail
    refine H4.out.1.mono ?_
    rintro e w4 ⟨⟨g, rfl⟩, hS4⟩
    obtain ⟨e01, e02, e03⟩ := hS4.box H1.out.2
    have hka : Kp (fun _ => False) w4 (w4.alloc (.cells #[.int .u64 141] 27)) := (Kp.refl _ w4).alloc _
    have hcl := hS4.collect (by omega) (fun j hj => by
      have : j = 0 ∨ j = 1 ∨ j = 2 := by omega
      rcases this with rfl | rfl | rfl
      · exact ⟨_, _, HW.out.1⟩
      · exact ⟨_, _, HW.out.2.1⟩
      · exact ⟨_, _, HW.out.2.2.1⟩) _ hka (cell_of (heap_alloc_new w4 (.cells #[.int .u64 141] 27)) 0)
    have H5 := Lib.hid hcl
    clear hcl hka hS4 e1 e2 e3 H4
    go_wp2_with fail
    refine H5.out.mono ?_
    rintro e w5 ⟨⟨n5, rfl⟩, hS5⟩
    obtain ⟨e1, e2, e3⟩ := hS5.box H1.out.2
    have hld := hS5.load (f + k) d HW.out.2.2.1 (by have := HW.out.2.2.2.1; have := HW.out.2.2.2.2.2.2; omega) (by have := HW.out.2.2.2.1; omega)
    have H6 := Lib.hid hld
    clear hld hS5 e01 e02 e03 H5
    go_wp2_with fail
    refine H6.out.mono ?_
    rintro e w6 ⟨⟨po6, cap6, rfl, hby⟩, hk6, hS6⟩
    have H7 := Lib.hid (And.intro hby (And.intro hk6 hS6))
    clear hby hk6 hS6 e1 e2 e3 H6
    unfold binV
    go_wp2_with fail
    obtain ⟨W7, hW7⟩ : ∃ W, w6.alloc (.cells #[.int .i64 8, .int .i64 0, .string noS, .slice none 0 0, .slice none 0 0, .slice po6 d cap6] 41) = W := ⟨_, rfl⟩
    have hk7 : Kp (fun _ => False) w6 W7 := by rw [← hW7]; exact (Kp.refl _ w6).alloc _
    have ht5 : W7.cell? ⟨w6.heap.size, 5, none⟩ = some (.slice po6 d cap6) := by rw [← hW7]; exact cell_of (heap_alloc_new w6 _) 5
    rw [hW7]
    obtain ⟨P, hP⟩ : ∃ P, f + k = P := ⟨_, rfl⟩
    have hbyt := bytes_kp H7.out.1 hk7 (fun _ _ e => e)
    rw [hP] at hbyt
    have hS7 := H7.out.2.2.same hk7
    have hvb := bytes_kp HW.out.2.2.2.2.1 hS7.kp (fun _ _ e => e)
    rw [← HW.out.2.2.2.1] at hvb
    obtain ⟨e1, e2, e3⟩ := hS7.box H1.out.2
    have hused : ∀ n : Nat, Calls Tryz.prog 25 #[.pointer (some ⟨bb, 0, none⟩)] (W7.drewN n) fun e w' => e = .returned (.int .i64 L) ∧ w' = W7.drewN n := fun n => by
      have := (hS7.same (kp_drewN (fun _ => False) W7 n)).used
      rw [HW.out.2.2.2.1] at this
      exact this.mono fun e w' ⟨h1, h2⟩ => ⟨h1, h2.symm⟩
    have q1 := fun n => conv_any (bytes_kp hbyt (kp_drewN (fun _ => False) W7 n) (fun _ _ e => e))
    have hPI : (f : Int) + (k : Int) = (P : Int) := by omega
    obtain ⟨Q, hQ⟩ : ∃ Q, f + m = Q := ⟨_, rfl⟩
    have hQI : (f : Int) + (m : Int) = (Q : Int) := by omega
    have hdd := HW.out.2.2.2.2.2.2
    have hPQ : P + d = Q := by omega
    have hQc : (Q : Int) ≤ cap0 := by omega
    have hPQi : (P : Int) ≤ Q := by omega
    have hQL : Q ≤ L := by omega
    have hsub : Q - P = d := by omega
    have H8 := Lib.hid (And.intro hS7 (And.intro hk7 hused))
    go_cut [159] (fun s159 wx => s159 = .bool false ∧ ∃ n, wx = W7.drewN n)
    case first =>
      by_cases hcx : cap0 = P
      · obtain rfl : d = 0 := by omega
        subst hcx
        have hv5 := bytes_sub hvb (x := cap0) (y := 0) (by have := HW.out.2.2.2.1; omega) 0 (by omega) (po' := a0) (fun hy => by exfalso; omega)
        have q2 := fun n => conv_any (bytes_kp hv5 (kp_drewN (fun _ => False) W7 n) (fun _ _ e => e))
        clear hv5 hvb hbyt hused hS7 hk7 hW7 hP hQ hdd hPQ
        go_quiet ((go_at_call 25; exact Calls.quiet_of_same (H8.out.2.2 _)))
        first | (go_wp2_with fail; go_meet; exact ⟨rfl, _, rfl⟩) | (simp [Act.put]; go_wp2_with fail; go_meet; exact ⟨rfl, _, rfl⟩) | (go_meet; exact ⟨_, ⟨rfl, _, rfl⟩, rfl⟩)
      · have hv5 := bytes_sub hvb (x := P) (y := d) (by have := HW.out.2.2.2.1; omega) (cap0 - P) (by omega) (po' := a0.map (fun a => a.add P)) (fun hy => rfl)
        have q2 := fun n => conv_any (bytes_kp hv5 (kp_drewN (fun _ => False) W7 n) (fun _ _ e => e))
        clear hv5 hvb hbyt hused hS7 hk7 hW7 hP hQ hdd hPQ
        go_quiet ((go_at_call 25; exact Calls.quiet_of_same (H8.out.2.2 _)))
        first | (go_wp2_with fail; go_meet; exact ⟨rfl, _, rfl⟩) | (simp [Act.put]; go_wp2_with fail; go_meet; exact ⟨rfl, _, rfl⟩) | (go_meet; exact ⟨_, ⟨rfl, _, rfl⟩, rfl⟩)
    case rest =>
      obtain ⟨rfl, nq, hwc⟩ := hcut
      have hk8 : Kp (fun _ => False) W7 wc := by rw [hwc]; exact kp_drewN _ _ _
      have hS8 := H8.out.1.same hk8
      clear e1 e2 e3 hwc q1 ht5
      obtain ⟨e1, e2, e3⟩ := hS8.box H1.out.2
      have Hc := Lib.hid (hS8.collect (by omega) ⟨_, _, HW.out.2.2.1⟩)
      clear hS8 hk8 hvb hbyt hused hS7 hk7 hW7 hP hQ hdd hPQ hPI hQI
      go_wp2_with fail
      refine Hc.out.mono ?_
      rintro e w9 ⟨⟨n9, rfl⟩, hS9⟩
      clear e1 e2 e3
      obtain ⟨e1, e2, e3⟩ := hS9.box H1.out.2
      have hu := hS9.useds
      have haw := hpAwake_any w9 (HI.out.2.2.2.2.kp hS9.kp)
      have H9 := Lib.hid (And.intro hu (And.intro haw hS9.kp))
      clear hu haw hS9
      go_wp2_with (first
        | (go_at_call 25; refine H9.out.1.1.mono ?_; rintro e w' ⟨rfl, rfl⟩)
        | (go_at_call 27; refine H9.out.1.2.mono ?_; rintro e w' ⟨rfl, rfl⟩)
        | (go_at_call 22; refine H9.out.2.1.mono ?_; rintro e w10 ⟨rfl, hk10⟩; have H10 := Lib.hid hk10; clear hk10))
      go_ret
      exact ⟨rfl, H9.out.2.2.trans' H10.out⟩
end Go.Proofs.YtkcmfldcdokobaaGreatDoor
