/- One that is linked to many: each of them is told at its end, rising, once, and who was unlinked ahead is not, for any lists. -/
import Derived.Test.YtmfhmnlgffgcgaaRows
import Derived.Test.YtmfhmnlgffgcgaaLkStars
import Derived.Test.YtmfhmnlgffgcgaaIn
import Derived.WalkKit
import Derived.ProofKit
import Derived.OpenShut
import Derived.ShutString
import Derived.ChangeOld
import Derived.Below
import Derived.Deep.Strs
namespace Go.Proofs.Ytmfhmnlgffgcgaa.linksStars
open Go.ChangeShapes Go.WideShapes Go.ChangeAt Go.RowKit
open Go.ChangeMaps (open_string shut_string)
set_option linter.unusedVariables false

theorem own : ownKnob Try.prog.godebug = none := by kernel_rfl
theorem laidOut : laidOutB Try.prog = true := by kernel_rfl

theorem Try.infoBoolS : (Try.prog.info? 4).map (fun i => (i.zero, i.size, i.bytes)) = some (some (.bool false), 1, 1) := by kernel_rfl
set_option maxHeartbeats 8000000 in
set_option maxRecDepth 100000 in
theorem walk (a0 : Option Addr) (len0 cap0 : Nat) (z0 : Nat → Int) (a1 : Option Addr) (len1 cap1 : Nat) (z1 : Nat → Int) (w : World) (h0 : InRow w a0 len0 z0) (h1 : InRow w a1 len1 z1) :
    Calls Try.prog 4 #[.slice a0 len0 cap0, .slice a1 len1 cap1] w fun e w' => e = .returned (.bool true) ∧ Below w.heap.size w w' := by
  have HI0 := Lib.hid h0
  have HI1 := Lib.hid h1
  have hl0 := h0.1
  have hl1 := h1.1
  obtain ⟨b, hb⟩ : ∃ b, w.heap.size = b := ⟨_, rfl⟩
  have hN := ns_new (C := fun _ => False) w (fun _ e => e.elim)
  obtain ⟨w1, hw1⟩ : ∃ w1, w.alloc (.cells #[.map none, .map none, .map none, .map none, .map none, .map none, .map none, .int .i64 0] 31) = w1 := ⟨_, rfl⟩
  rw [hw1, hb] at hN
  obtain ⟨g, hg⟩ : ∃ g, w1.heap.size = g := ⟨_, rfl⟩
  obtain ⟨w2, hw2⟩ : ∃ w2, w1.alloc (.cells (madeCells #[.bool false] 50) 4) = w2 := ⟨_, rfl⟩
  have k2 : Kp (fun _ => False) w1 w2 := by rw [← hw2]; exact (Kp.refl _ w1).alloc _
  have hs2 : w2.heap.size = g + 1 := by rw [← hw2, ← hg]; simp
  have HT : Hid (∃ ls B, St w w2 b g ls B) := by
    refine Lib.hid ⟨[], _, St.start (hN.put k2 (fun q hq => .inr ⟨by omega, by omega⟩)) ?_ (by rw [← hg]; exact hN.kp0.size)⟩
    rw [← hw2, ← hg]
    exact Bl.made w1 50
  obtain ⟨i0, hi, hz0, hz1, hz2⟩ := info_parts Try.infoBoolS
  have hmk : ∀ u : World, (Instr.makeSlice 43 (.int .i64 50) (.int .i64 50)).run Try.prog u = .ok (.slice (some ⟨u.heap.size, 0, none⟩) 50 50) (u.alloc (.cells (madeCells #[.bool false] 50) 4)) := fun u => by
    have h := run_make (P := Try.prog) u 43 4 i0 (.bool false) Try.underlying43 hi hz0 .i64 .i64 50 50 (by omega) (Int.le_refl _) (by rw [hz2]; omega) (by omega)
    rw [show Int.toNat 50 * i0.size = 50 by rw [hz1]; rfl] at h
    exact h
  have HB := Lib.hid hb
  clear h0 h1 hN k2 hs2 hi hz0 hz1 hz2
  go_enter Try.func4, Try.ntmps4
  go_wp2_with fail
  go_loopg [7, 8] len0 (fun gk s7 s8 wr => ∃ (i : Nat) (y8 : Value), i ≤ len0 ∧ gk = len0 - i ∧ s7 = .int .i64 (i : Nat) ∧ s8 = y8 ∧ Hid (∃ ls B, St w wr b g ls B))
  case atStart => exact ⟨0, _, by omega, rfl, rfl, rfl, HT⟩
  case round =>
    obtain ⟨i, y8, hi, rfl, rfl, rfl, HR⟩ := hrel
    clear HT hmk hw1 hw2 hg hb
    obtain ⟨ls, B, hR⟩ := HR.out
    by_cases hlt : i < len0
    · have hli : (i : Int) < len0 := by omega
      obtain ⟨b0, off0, rfl, c0, c1, c2⟩ := HI0.out.at' hR.ns.kp0 i hlt
      obtain ⟨v, hv⟩ : ∃ v, z0 i = v := ⟨_, rfl⟩
      rw [hv] at c0 c1 c2
      have HP := Lib.hid (place_any wr v 50 c1 c2 (by omega) (by omega))
      obtain ⟨K, hK, hK2⟩ : ∃ K : Nat, v % 50 = K ∧ K < 50 := ⟨(v % 50).toNat, by omega, by omega⟩
      rw [hK] at HP
      have hKi : (K : Int) < 50 := by omega
      by_cases h7 : K = 7
      · subst h7
        clear hv hK c1 c2 hR
        go_wp2_with fail
        refine HP.out.mono ?_
        rintro e w' ⟨rfl, rfl⟩
        clear HP
        go_wp2_with fail
        go_roundg (len0 - (i + 1))
        case measure => omega
        case rel => exact ⟨i + 1, _, by omega, rfl, by go_num, rfl, HR⟩
      · have h7b : ((K : Int) == 7) = false := by rw [beq_eq_false_iff_ne]; omega
        have HL := Lib.hid (ns_link (hR.same (Kp.refl (fun _ => False) wr).drew).ns (a := 7) (x := (K : Nat)) (by unfold I64; omega) (by unfold I64; omega) (by have := hR.few; omega))
        have hon := hR.on K hK2
        obtain ⟨D, hD⟩ : ∃ D, decide (lk 7 (K : Nat) ∈ ls) = D := ⟨_, rfl⟩
        have hd : (!decide ((7 : Int) = (K : Nat) ∨ lk 7 (K : Nat) ∈ ls)) = !D := by
          rw [← hD]
          congr 1
          rw [Bool.eq_iff_iff, decide_eq_true_iff, decide_eq_true_iff]
          exact ⟨fun e => e.elim (fun e => absurd e (by omega)) id, .inr⟩
        rw [hd] at HL
        rw [hD] at hon
        have HQ := Lib.hid (And.intro (hR.same (Kp.refl (fun _ => False) wr).drew) (And.intro hK2 (And.intro h7 hon)))
        clear hv hK c1 c2 hR hd hD hon h7 HR
        cases D
        all_goals
          go_wp2_with fail
          refine HP.out.mono ?_
          rintro e w' ⟨rfl, rfl⟩
          clear HP
          go_wp2_with fail
          have d0 : wr.cell? ⟨g, K, none⟩ = _ := HQ.out.1.bl.get HQ.out.2.2.2
          go_region_with (go_at_call 13; refine HL.out.mono ?_; rintro e w3 ht; obtain ⟨rfl, -⟩ := id ht; have HT2 := Lib.hid ht; clear ht; have d1 := (HQ.out.1.linked HQ.out.2.1 HQ.out.2.2.1 HT2.out).1.get HQ.out.2.2.2; have hfz := (HQ.out.1.linked HQ.out.2.1 HQ.out.2.2.1 HT2.out).1.fz; have HF : Hid (∃ ls B, St w (w3.setCell ⟨g, K, none⟩ (.bool true)) b g ls B) := Lib.hid ⟨_, _, (HQ.out.1.linked HQ.out.2.1 HQ.out.2.2.1 HT2.out).2⟩)
          all_goals
            clear HT2 HQ HL c0
            go_wp2_with fail
            go_roundg (len0 - (i + 1))
            case measure => omega
            case rel => exact ⟨i + 1, _, by omega, rfl, by go_num, rfl, HF⟩
    · obtain rfl : i = len0 := by omega
      clear hR
      go_wp2_with fail
      go_loopg [9, 10] len1 (fun gk s9 s10 wr => ∃ (j : Nat) (y10 : Value), j ≤ len1 ∧ gk = len1 - j ∧ s9 = .int .i64 (j : Nat) ∧ s10 = y10 ∧ Hid (∃ ls B, St w wr b g ls B))
      case atStart => exact ⟨0, _, by omega, rfl, rfl, rfl, HR⟩
      case round =>
        obtain ⟨j, y10, hj, rfl, rfl, rfl, HR2⟩ := hrel
        clear HR
        obtain ⟨ls, B, hR⟩ := HR2.out
        by_cases hlt2 : j < len1
        · have hli : (j : Int) < len1 := by omega
          obtain ⟨b0, off0, rfl, c0, c1, c2⟩ := HI1.out.at' hR.ns.kp0 j hlt2
          obtain ⟨v, hv⟩ : ∃ v, z1 j = v := ⟨_, rfl⟩
          rw [hv] at c0 c1 c2
          have HP := Lib.hid (place_any wr v 50 c1 c2 (by omega) (by omega))
          obtain ⟨K, hK, hK2⟩ : ∃ K : Nat, v % 50 = K ∧ K < 50 := ⟨(v % 50).toNat, by omega, by omega⟩
          rw [hK] at HP
          have hKi : (K : Int) < 50 := by omega
          have HL := Lib.hid (ns_unlink (hR.same (Kp.refl (fun _ => False) wr).drew).ns (a := (K : Nat)) (x := 7) (by unfold I64; omega) (by unfold I64; omega))
          have hon := hR.on K hK2
          obtain ⟨D, hD⟩ : ∃ D, decide (lk 7 (K : Nat) ∈ ls) = D := ⟨_, rfl⟩
          have hd : decide (lk (K : Nat) 7 ∈ ls) = D := by rw [← hD, lk_comm]
          rw [hd] at HL
          rw [hD] at hon
          have HQ := Lib.hid (And.intro (hR.same (Kp.refl (fun _ => False) wr).drew) (And.intro hK2 hon))
          clear hv hK c1 c2 hR hd hD hon HR2
          cases D
          all_goals
            go_wp2_with fail
            refine HP.out.mono ?_
            rintro e w' ⟨rfl, rfl⟩
            clear HP
            go_wp2_with fail
            have d0 : wr.cell? ⟨g, K, none⟩ = _ := HQ.out.1.bl.get HQ.out.2.2
            go_region_with (go_at_call 14; refine HL.out.mono ?_; rintro e w3 ht; obtain ⟨rfl, -⟩ := id ht; have HT2 := Lib.hid ht; clear ht; have d1 := (HQ.out.1.unlinked HQ.out.2.1 HT2.out).1.get HQ.out.2.2; have hfz := (HQ.out.1.unlinked HQ.out.2.1 HT2.out).1.fz; have HF : Hid (∃ ls B, St w (w3.setCell ⟨g, K, none⟩ (.bool false)) b g ls B) := Lib.hid ⟨_, _, (HQ.out.1.unlinked HQ.out.2.1 HT2.out).2⟩)
            all_goals
              clear HT2 HQ HL c0
              go_wp2_with fail
              go_roundg (len1 - (j + 1))
              case measure => omega
              case rel => exact ⟨j + 1, _, by omega, rfl, by go_num, rfl, HF⟩
        · obtain rfl : j = len1 := by omega
          have HS := Lib.hid (Sw.start hR)
          have HSt := Lib.hid hR
          clear hR HR2
          go_wp2_with fail
          go_loopg [11, 12] 50 (fun gk s11 s12 wr => ∃ (k : Nat) (wv : Value), k ≤ 50 ∧ gk = 50 - k ∧ s11 = wv ∧ s12 = .int .i64 (k : Nat) ∧ Hid (Sw w wr b g ls B wv k))
          case atStart => exact ⟨0, _, by omega, rfl, rfl, rfl, HS⟩
          case round =>
            obtain ⟨k, wv, hk, rfl, hwv, rfl, HW⟩ := hrel
            obtain rfl := hwv.symm
            clear HS
            obtain ⟨po, cp, hf⟩ := HW.out.row.form
            obtain ⟨N, hN⟩ : ∃ N, (wl ls k).length = N := ⟨_, rfl⟩
            rw [hN] at hf
            subst hf
            by_cases hk5 : k < 50
            · have hki : (k : Int) < 50 := by omega
              by_cases hm : lk 7 (k : Nat) ∈ ls
              · have d0 := HW.out.bl.get (by have := HSt.out.on k hk5; rw [decide_eq_true hm] at this; exact this)
                obtain ⟨g2, cap, w', hr, hS⟩ := HW.out.push hk5 hm
                rw [hN] at hr hS
                have HR1 := Lib.hid hr
                have HF := Lib.hid hS
                clear hr hS hm hN HW
                go_wp2_with (at_builtin; refine wpList_run rfl _ _ 32 rfl (.slice po N cp) (.slice (some ⟨wr.heap.size, 0, none⟩) 1 1) rfl rfl _ w' HR1.out ?_)
                go_roundg (50 - (k + 1))
                case measure => omega
                case rel => exact ⟨k + 1, _, by omega, rfl, rfl, by go_num, HF⟩
              · have d0 := HW.out.bl.get (by have := HSt.out.on k hk5; rw [decide_eq_false hm] at this; exact this)
                have HF := Lib.hid (HW.out.skip hm)
                clear hm hN HW
                go_wp2_with fail
                go_roundg (50 - (k + 1))
                case measure => omega
                case rel => exact ⟨k + 1, _, by omega, rfl, rfl, by go_num, HF⟩
            · obtain rfl : k = 50 := by omega
              have HE := Lib.hid (ns_end HW.out.ns (a := 7) (by unfold I64; omega))
              rw [HSt.out.nbs, HSt.out.ends] at HE
              clear hk5
              go_wp2_with fail
              refine HE.out.mono ?_
              rintro e w5 ⟨vl, vr, rfl, l1, r1, -, -, h5, k5⟩
              obtain ⟨pr, cr, hvr⟩ := r1.form
              rw [show (obs [] 7).length = 0 from by simp [obs, byWhom, colOf, srt]] at hvr
              have HL := Lib.hid (ns_len h5)
              have hw5 : Lw w5 (.slice po N cp) (wl ls 50) := HW.out.row.kp k5 (fun q hq e => e (.inr hq))
              have HQ := Lib.hid (And.intro l1 (And.intro hw5 h5.kp0))
              subst hvr
              clear l1 r1 h5 k5 hw5 HE
              go_wp2_with fail
              refine HL.out.mono ?_
              rintro e w6 ⟨rfl, k6⟩
              have HC := Lib.hid (sameLongs_any (HQ.out.1.rd.same k6) (HQ.out.2.1.rd.same k6))
              have HK := Lib.hid (HQ.out.2.2.trans' k6)
              clear k6 HL
              go_wp2_with fail
              refine HC.out.mono ?_
              rintro e w7 ⟨rfl, n7, hn7⟩
              have HK7 : Hid (Kp (fun _ => False) w w7) := Lib.hid (by rw [hn7]; exact kp_drewN HK.out n7)
              have HA := Lib.hid (lkAwake_any w7)
              clear hn7 HC
              go_wp2_with fail
              refine HA.out.mono ?_
              rintro e w8 ⟨rfl, k8⟩
              have HF : Hid (Below w.heap.size w w8) := Lib.hid ((HK7.out.trans' k8).below w.heap.size (Nat.le_refl _) (fun _ e => e.elim))
              clear k8 HA
              go_wp2_with fail
              go_ret
              exact ⟨rfl, HF.out⟩

set_option maxRecDepth 100000 in
theorem lifted (os : Os) (started : os.Started) (H : Type) (enc : TypeId × Value → H) :
    ReturnsInHanded {} Try.checked os 4 .any (Rows.linksStarsSpec.pre6 enc Try.prog Try.f4 Rows.linksStarsRow.domain false) (Rows.linksStarsSpec.post enc Try.prog Try.f4 false true false false) := by
  refine returnsInHanded_of_change (C := Try.checked) own started (by kernel_rfl) Try.func4
    (ChangeSpec.witness6 (enc := enc) (C := Try.checked) false ⟨#[], #[.slice none 0 0, .slice none 0 0], []⟩ 8 (by kernel_rfl) (by kernel_rfl) (by kernel_rfl) (by kernel_rfl)) ?_
  intro W base args ds gs before hval0 hW hcnd _
  have hval : ∀ (j : Nat) t v, Try.f4.params[j]? = some t → args[j]? = some v → Value.okWide Try.prog W .any base t v := hval0
  have hW' := hW
  obtain ⟨p, q, hA0, hV, rfl, hfz, hnd⟩ := hW
  have hA : DataW.TrodAll enc Try.prog W 0 (fun _ => true) true Try.f4.params.toList args.toList ds p := hA0
  rw [Try.params4] at hA hval
  obtain ⟨v0, vs0, d0, ds0, p0, q0, hargs, rfl, rfl, h0, r0⟩ := trodAll_cons hA
  obtain ⟨v1, vs1, d1, ds1, p1, q1, rfl, rfl, rfl, h1, r1⟩ := trodAll_cons r0
  obtain ⟨rfl, rfl, rfl⟩ := trodAll_nil r1
  obtain rfl : args = #[v0, v1] := by cases args; simp_all
  obtain ⟨rfl, rfl⟩ := trodVars_none hV
  obtain ⟨a0, len0, cap0, rfl⟩ := okWide_slice Try.underlying22 (hval 0 22 v0 rfl rfl)
  have k0 := h0
  have lt0 : ∀ x ∈ p0, x.block < W.heap.size := by obtain ⟨m, hm⟩ := k0; exact DataW.trod_lt m _ _ _ hm
  obtain ⟨z0, w0⟩ : ∃ zs : Nat → Int, InRow W a0 len0 zs := by
    obtain ⟨fuel, hf⟩ := h0
    rcases open_ints Try.underlying22 Try.underlying3 (by kernel_rfl) hf with ⟨hcs, _⟩ | ⟨x, l, c, zs, hcs, _, hl, hm, hz, _, hcell, hwz⟩
    · simp [Value.cells] at hcs
      obtain ⟨rfl, rfl, rfl⟩ := hcs
      exact ⟨fun _ => 0, by unfold InRow; exact ⟨by omega, fun k hk => by omega⟩⟩
    · simp [Value.cells] at hcs
      obtain ⟨rfl, rfl, rfl⟩ := hcs
      exact ⟨_, inRow_of (zs := zs) (.inr ⟨_, rfl, hl, hm, by simpa using hz, hcell, hwz⟩)⟩
  obtain ⟨a1, len1, cap1, rfl⟩ := okWide_slice Try.underlying22 (hval 1 22 v1 rfl rfl)
  have k1 := h1
  have lt1 : ∀ x ∈ p1, x.block < W.heap.size := by obtain ⟨m, hm⟩ := k1; exact DataW.trod_lt m _ _ _ hm
  obtain ⟨z1, w1⟩ : ∃ zs : Nat → Int, InRow W a1 len1 zs := by
    obtain ⟨fuel, hf⟩ := h1
    rcases open_ints Try.underlying22 Try.underlying3 (by kernel_rfl) hf with ⟨hcs, _⟩ | ⟨x, l, c, zs, hcs, _, hl, hm, hz, _, hcell, hwz⟩
    · simp [Value.cells] at hcs
      obtain ⟨rfl, rfl, rfl⟩ := hcs
      exact ⟨fun _ => 0, by unfold InRow; exact ⟨by omega, fun k hk => by omega⟩⟩
    · simp [Value.cells] at hcs
      obtain ⟨rfl, rfl, rfl⟩ := hcs
      exact ⟨_, inRow_of (zs := zs) (.inr ⟨_, rfl, hl, hm, by simpa using hz, hcell, hwz⟩)⟩
  clear hA0 hval0
  refine (walk a0 len0 cap0 z0 a1 len1 cap1 z1 W w0 w1).mono fun e W' ⟨he, bel⟩ => ?_
  subst he
  exact ⟨_, rfl, _, _, _, [], _, [], hW', trodAll_mk1 (shut_bool Try.underlying4 _), (trodAll_cons_mk (Below.trod laidOut (by kernel_rfl) (of_decide_eq_true (by kernel_rfl)) k0 bel lt0) (trodAll_cons_mk (Below.trod laidOut (by kernel_rfl) (of_decide_eq_true (by kernel_rfl)) k1 bel lt1) trodAll_mk0)), rfl, bel.frame _, fun h => by cases h⟩

theorem over : Rows.linksStarsRow.holds Try.pinned (OpenSpec.ofChange Rows.linksStarsSpec) :=
  OpenClaim.holds_of_wide 4 Try.f4 rfl rfl rfl rfl rfl rfl rfl ⟨rfl, rfl, rfl, rfl, rfl⟩ rfl rfl rfl rfl rfl (by kernel_rfl) Try.func4 (by kernel_rfl)
    (of_decide_eq_true (by kernel_rfl)) (by unfold Func.isWrapper; first | (rw [if_pos (by decide +kernel)]; kernel_rfl) | (rw [if_neg (by decide +kernel)]; exact ⟨rfl, rfl⟩))
    (fun os started H enc _ => lifted os started H enc)

theorem proved : Rows.LinksStarsSaid := over
#print axioms proved
end Go.Proofs.Ytmfhmnlgffgcgaa.linksStars
