/- Thousands of messages that come and go leave those that are there, in order: BoxLong returns true, whatever the two lists of numbers. -/
import Derived.Test.YtgdmcinfgfejcaaRows
import Derived.Test.YtgdmcinfgfejcaaBxUps
import Derived.Test.YtgdmcinfgfejcaaIn
import Derived.WalkKit
import Derived.ProofKit
import Derived.OpenShut
import Derived.ShutString
import Derived.ChangeOld
import Derived.Below
import Derived.Deep.Strs
namespace Go.Proofs.Ytgdmcinfgfejcaa.boxLong
open Go.ChangeShapes Go.WideShapes Go.ChangeAt Go.RowKit
open Go.ChangeMaps (open_string shut_string)
set_option linter.unusedVariables false

theorem own : ownKnob Try.prog.godebug = none := by kernel_rfl
theorem laidOut : laidOutB Try.prog = true := by kernel_rfl

set_option maxHeartbeats 8000000 in
set_option maxRecDepth 100000 in
theorem walk (a0 : Option Addr) (len0 cap0 : Nat) (z0 : Nat → Int) (a1 : Option Addr) (len1 cap1 : Nat) (z1 : Nat → Int) (w : World) (h0 : InRow w a0 len0 z0) (h1 : InRow w a1 len1 z1) :
    Calls Try.prog 6 #[.slice a0 len0 cap0, .slice a1 len1 cap1] w fun e w' => e = .returned (.bool true) ∧ Below w.heap.size w w' := by
  have hl0 := h0.1
  have hl1 := h1.1
  have HI := Lib.hid (And.intro h0 h1)
  clear h0 h1
  have H0 := Lib.hid (Bs.new_box (w0 := w) (n := 0) (box_new w) ((Kp.refl _ w).alloc _) (Nat.le_refl _))
  obtain ⟨w1, hw1⟩ : ∃ w1, w.alloc (.cells #[.slice none 0 0, .int .i64 0, .int .i64 0] 26) = w1 := ⟨_, rfl⟩
  rw [hw1] at H0
  have HW := Lib.hid hw1
  clear hw1
  go_enter Try.func6, Try.ntmps6
  go_wp2_with fail
  rw [HW.out]
  clear HW
  go_loopg [6, 7, 8, 9, 10, 11, 12, 13] (min len0 40) (fun gk s6 s7 s8 s9 s10 s11 s12 s13 wr => ∃ (i h m g : Nat), i ≤ min len0 40 ∧ gk = min len0 40 - i ∧ s8 = .int .i64 i ∧ s6 = .int .u64 ((h + m : Nat) : Int) ∧ s7 = .int .u64 (h : Nat) ∧ h + m ≤ 100 * i ∧
    Bs w wr w.heap.size g (ups h m) 0 0 (fun _ => .slice none 0 0) (fun _ => []))
  case atStart => exact ⟨0, 0, 0, 0, by omega, rfl, rfl, rfl, rfl, by omega, H0.out⟩
  case round =>
    obtain ⟨i, h, m, g, hi, rfl, rfl, rfl, rfl, hhm, hB⟩ := hrel
    clear H0
    by_cases hlt : i < len0
    · have hli : (i : Int) < len0 := by omega
      by_cases h40 : i < 40
      · have hi40 : (i : Int) < 40 := by omega
        obtain ⟨x, hx⟩ : ∃ x, z0 i = x := ⟨_, rfl⟩
        obtain ⟨K, hK, hK2⟩ : ∃ K : Nat, x % 100 = K ∧ K < 100 := ⟨(x % 100).toNat, by omega, by omega⟩
        have HB := Lib.hid hB
        have HK := Lib.hid (And.intro hK hx)
        clear hB hx hK
        go_wp2_with fail
        go_loopg [6, 9] K (fun gk s6 s9 wr => ∃ j : Nat, j ≤ K ∧ gk = K - j ∧ s9 = .int .i64 j ∧ s6 = .int .u64 ((h + (m + j) : Nat) : Int) ∧ Bs w wr w.heap.size g (ups h (m + j)) 0 0 (fun _ => .slice none 0 0) (fun _ => []))
        case atStart => exact ⟨0, by omega, rfl, rfl, rfl, HB.out⟩
        case round =>
          obtain ⟨j, hj, rfl, rfl, rfl, hB⟩ := hrel
          clear HB
          obtain ⟨b0, off0, rfl, c0, c1, c2⟩ := HI.out.1.at' hB.kp i hlt
          rw [HK.out.2] at c0 c1 c2
          have HB := Lib.hid hB
          clear hB
          go_wp2_with fail
          refine (place_any _ x 100 c1 c2 (by omega) (by omega)).mono ?_
          rintro e w' ⟨rfl, rfl⟩
          rw [HK.out.1]
          by_cases hjk : j < K
          · have hji : (j : Int) < K := by omega
            go_wp2_with fail
            refine (s_push HB.out ((h + (m + j) : Nat) : Int) (by have := HB.out.at_le.2; rw [ups_len] at this ⊢; omega)).mono ?_
            rintro e w2 ⟨rfl, h2⟩
            have hcv : IntKind.u64.wrap (((h + (m + j) : Nat) : Int) + 1) = ((h + (m + (j + 1)) : Nat) : Int) := by rw [u64_in _ (by omega) (by omega)]; omega
            have H2 := Lib.hid h2
            clear h2
            go_wp2_with fail
            go_roundg (K - (j + 1))
            case measure => omega
            case rel => exact ⟨j + 1, by omega, rfl, by go_num, by first | rfl | go_num, by rw [show m + (j + 1) = m + j + 1 from rfl, ups_succ]; exact H2.out⟩
          · obtain rfl : j = K := by omega
            clear c0 hjk
            by_cases ht : i < len1
            · have hti : (i : Int) < len1 := by omega
              obtain ⟨b1, off1, rfl, d0, d1, d2⟩ := HI.out.2.at' HB.out.kp i ht
              obtain ⟨y, hy⟩ : ∃ y, z1 i = y := ⟨_, rfl⟩
              rw [hy] at d0 d1 d2
              obtain ⟨N, hN, hN2⟩ : ∃ N : Nat, y % 110 = N ∧ N < 110 := ⟨(y % 110).toNat, by omega, by omega⟩
              have HN := Lib.hid hN
              clear hN hy
              go_wp2_with fail
              refine (place_any _ y 110 d1 d2 (by omega) (by omega)).mono ?_
              rintro e w' ⟨rfl, rfl⟩
              rw [HN.out]
              clear d0 d1 d2 c1 c2
              go_wp2_with fail
              go_loopg [7, 11, 12, 13] N (fun gk s7 s11 s12 s13 wr => ∃ (q h2x m2 g2 : Nat), q ≤ N ∧ gk = N - q ∧ s11 = .int .i64 q ∧ s7 = .int .u64 (h2x : Nat) ∧ h2x + m2 = h + (m + j) ∧ Bs w wr w.heap.size g2 (ups h2x m2) 0 0 (fun _ => .slice none 0 0) (fun _ => []))
              case atStart => exact ⟨0, h, m + j, g, by omega, rfl, rfl, rfl, rfl, HB.out⟩
              case round =>
                obtain ⟨q, h2x, m2, g2, hq, rfl, rfl, rfl, hsum, hB⟩ := hrel
                clear HB
                by_cases hqn : q < N
                · have hqi : (q : Int) < N := by omega
                  by_cases hm0 : m2 = 0
                  · subst hm0
                    have HB2 := Lib.hid hB
                    clear hB
                    go_wp2_with fail
                    refine (s_take_none HB2.out (by rw [ups_len]; omega)).mono ?_
                    rintro e w2 ⟨rfl, h2⟩
                    have hnn : ¬ (((h2x : Nat) : Int) < ((h2x + 0 : Nat) : Int)) := by omega
                    have H2 := Lib.hid h2
                    clear h2
                    go_wp2_with fail
                    go_roundg (N - (q + 1))
                    case measure => omega
                    case rel => exact ⟨q + 1, h2x, 0, g2, by omega, rfl, by go_num, rfl, by omega, H2.out⟩
                  · obtain ⟨m3, rfl⟩ : ∃ m3, m2 = m3 + 1 := ⟨m2 - 1, by omega⟩
                    have HB2 := Lib.hid hB
                    clear hB
                    go_wp2_with fail
                    refine (s_take_some HB2.out (x := (h2x : Nat)) (by rw [ups_get (by omega), Nat.add_zero])).mono ?_
                    rintro e w2 ⟨rfl, g3, h2⟩
                    rw [ups_tail] at h2
                    have hnn : (((h2x : Nat) : Int) < ((h2x + (m3 + 1) : Nat) : Int)) := by omega
                    have hcv : IntKind.u64.wrap (((h2x : Nat) : Int) + 1) = ((h2x + 1 : Nat) : Int) := by rw [u64_in _ (by omega) (by omega)]; omega
                    have H2 := Lib.hid h2
                    clear h2
                    go_wp2_with fail
                    go_roundg (N - (q + 1))
                    case measure => omega
                    case rel => exact ⟨q + 1, h2x + 1, m3, g3, by omega, rfl, by go_num, by first | rfl | go_num, by omega, H2.out⟩
                · obtain rfl : q = N := by omega
                  have HL := Lib.hid (s_len hB)
                  rw [ups_len] at HL
                  clear hB hqn
                  go_wp2_with fail
                  refine HL.out.mono ?_
                  rintro e w2 ⟨rfl, h2⟩
                  have hsb : IntKind.u64.wrap (((h + (m + j) : Nat) : Int) - (h2x : Nat)) = (m2 : Nat) := by rw [u64_in _ (by omega) (by omega)]; omega
                  have hsc : IntKind.i64.wrap ((m2 : Nat) : Int) = (m2 : Nat) := IntWalk.i64_in _ (by omega)
                  have H2 := Lib.hid h2
                  clear h2
                  go_wp2_with fail
                  go_roundg (min len0 40 - (i + 1))
                  case measure => omega
                  case rel => exact ⟨i + 1, h2x, m2, g2, by omega, rfl, by go_num, by congr 1; omega, rfl, by omega, H2.out⟩
            · have hti : ¬ ((i : Int) < len1) := by omega
              clear c1 c2
              go_wp2_with fail
              go_loopg [7, 11, 12, 13] 0 (fun gk s7 s11 s12 s13 wr => ∃ (q h2x m2 g2 : Nat), q ≤ 0 ∧ gk = 0 - q ∧ s11 = .int .i64 q ∧ s7 = .int .u64 (h2x : Nat) ∧ h2x + m2 = h + (m + j) ∧ Bs w wr w.heap.size g2 (ups h2x m2) 0 0 (fun _ => .slice none 0 0) (fun _ => []))
              case atStart => exact ⟨0, h, m + j, g, by omega, rfl, rfl, rfl, rfl, HB.out⟩
              case round =>
                obtain ⟨q, h2x, m2, g2, hq, rfl, rfl, rfl, hsum, hB⟩ := hrel
                clear HB
                by_cases hqn : q < 0
                · exact absurd hqn (by omega)
                · obtain rfl : q = 0 := by omega
                  have HL := Lib.hid (s_len hB)
                  rw [ups_len] at HL
                  clear hB hqn
                  go_wp2_with fail
                  refine HL.out.mono ?_
                  rintro e w2 ⟨rfl, h2⟩
                  have hsb : IntKind.u64.wrap (((h + (m + j) : Nat) : Int) - (h2x : Nat)) = (m2 : Nat) := by rw [u64_in _ (by omega) (by omega)]; omega
                  have hsc : IntKind.i64.wrap ((m2 : Nat) : Int) = (m2 : Nat) := IntWalk.i64_in _ (by omega)
                  have H2 := Lib.hid h2
                  clear h2
                  go_wp2_with fail
                  go_roundg (min len0 40 - (i + 1))
                  case measure => omega
                  case rel => exact ⟨i + 1, h2x, m2, g2, by omega, rfl, by go_num, by congr 1; omega, rfl, by omega, H2.out⟩
      · obtain rfl : i = 40 := by omega
        have hli : ((40 : Nat) : Int) < len0 := by omega
        obtain ⟨S, hS⟩ : ∃ S : Nat, h + m = S := ⟨_, rfl⟩
        rw [hS]
        have HS := Lib.hid hS
        have HB := Lib.hid hB
        clear hB hlt hS
        go_wp2_with fail
        refine (s_words HB.out).mono ?_
        rintro e w3 ⟨v3, rfl, hv3, -, hk3⟩
        obtain ⟨p3, c3, hf3⟩ := hv3.form
        rw [ups_len] at hf3
        subst hf3
        have H3 := Lib.hid (And.intro (HB.out.same hk3) hv3)
        have hm4 : m ≤ 4000 := by omega
        clear hv3 hk3 HB
        go_wp2_with fail
        go_loopg [15] m (fun gk s15 wr => ∃ k : Nat, k ≤ m ∧ gk = m - k ∧ s15 = .int .i64 k ∧ ∃ d, wr = w3.drewN d)
        case atStart => exact ⟨0, by omega, rfl, rfl, 0, rfl⟩
        case round =>
          obtain ⟨k, hk, rfl, rfl, d, rfl⟩ := hrel
          by_cases hkm : k < m
          · have hki : (k : Int) < m := by omega
            obtain ⟨g5, cap5, e3, hc1, hc2, hc⟩ := H3.out.2.get (ups_get (k := h) hkm)
            obtain rfl := slice_po e3
            have hcw : IntKind.u64.wrap (k : Int) = k := u64_in _ (by omega) (by omega)
            have hcx : IntKind.u64.wrap ((h : Int) + (k : Int)) = ((h + k : Nat) : Int) := by rw [u64_in _ (by omega) (by omega)]; omega
            clear hc1 hc2 e3
            go_wp2_with fail
            go_roundg (m - (k + 1))
            case measure => omega
            case rel => exact ⟨k + 1, by omega, rfl, by go_num, d, rfl⟩
          · obtain rfl : k = m := by omega
            have hsb : IntKind.u64.wrap ((S : Int) - (h : Nat)) = (k : Nat) := by have := HS.out; rw [u64_in _ (by omega) (by omega)]; omega
            have hsc : IntKind.i64.wrap ((k : Nat) : Int) = (k : Nat) := IntWalk.i64_in _ (by omega)
            have H5 := Lib.hid (H3.out.1.drewN d)
            clear hkm hk H3
            go_wp2_with fail
            refine (boxAwake_any _).mono ?_
            rintro e w6 ⟨rfl, hk6⟩
            have H7 := Lib.hid (H5.out.same hk6)
            clear hk6
            go_wp2_with fail
            go_ret
            exact ⟨rfl, H7.out.below⟩
    · obtain rfl : i = len0 := by omega
      clear HI
      obtain ⟨S, hS⟩ : ∃ S : Nat, h + m = S := ⟨_, rfl⟩
      rw [hS]
      have HS := Lib.hid hS
      have HB := Lib.hid hB
      clear hB hlt hS
      go_wp2_with fail
      refine (s_words HB.out).mono ?_
      rintro e w3 ⟨v3, rfl, hv3, -, hk3⟩
      obtain ⟨p3, c3, hf3⟩ := hv3.form
      rw [ups_len] at hf3
      subst hf3
      have H3 := Lib.hid (And.intro (HB.out.same hk3) hv3)
      have hm4 : m ≤ 4000 := by omega
      clear hv3 hk3 HB
      go_wp2_with fail
      go_loopg [15] m (fun gk s15 wr => ∃ k : Nat, k ≤ m ∧ gk = m - k ∧ s15 = .int .i64 k ∧ ∃ d, wr = w3.drewN d)
      case atStart => exact ⟨0, by omega, rfl, rfl, 0, rfl⟩
      case round =>
        obtain ⟨k, hk, rfl, rfl, d, rfl⟩ := hrel
        by_cases hkm : k < m
        · have hki : (k : Int) < m := by omega
          obtain ⟨g5, cap5, e3, hc1, hc2, hc⟩ := H3.out.2.get (ups_get (k := h) hkm)
          obtain rfl := slice_po e3
          have hcw : IntKind.u64.wrap (k : Int) = k := u64_in _ (by omega) (by omega)
          have hcx : IntKind.u64.wrap ((h : Int) + (k : Int)) = ((h + k : Nat) : Int) := by rw [u64_in _ (by omega) (by omega)]; omega
          clear hc1 hc2 e3
          go_wp2_with fail
          go_roundg (m - (k + 1))
          case measure => omega
          case rel => exact ⟨k + 1, by omega, rfl, by go_num, d, rfl⟩
        · obtain rfl : k = m := by omega
          have hsb : IntKind.u64.wrap ((S : Int) - (h : Nat)) = (k : Nat) := by have := HS.out; rw [u64_in _ (by omega) (by omega)]; omega
          have hsc : IntKind.i64.wrap ((k : Nat) : Int) = (k : Nat) := IntWalk.i64_in _ (by omega)
          have H5 := Lib.hid (H3.out.1.drewN d)
          clear hkm hk H3
          go_wp2_with fail
          refine (boxAwake_any _).mono ?_
          rintro e w6 ⟨rfl, hk6⟩
          have H7 := Lib.hid (H5.out.same hk6)
          clear hk6
          go_wp2_with fail
          go_ret
          exact ⟨rfl, H7.out.below⟩

set_option maxRecDepth 100000 in
theorem lifted (os : Os) (started : os.Started) (H : Type) (enc : TypeId × Value → H) :
    ReturnsInHanded {} Try.checked os 6 .any (Rows.boxLongSpec.pre6 enc Try.prog Try.f6 Rows.boxLongRow.domain false) (Rows.boxLongSpec.post enc Try.prog Try.f6 false true false false) := by
  refine returnsInHanded_of_change (C := Try.checked) own started (by kernel_rfl) Try.func6
    (ChangeSpec.witness6 (enc := enc) (C := Try.checked) false ⟨#[], #[.slice none 0 0, .slice none 0 0], []⟩ 8 (by kernel_rfl) (by kernel_rfl) (by kernel_rfl) (by kernel_rfl)) ?_
  intro W base args ds gs before hval0 hW hcnd _
  have hval : ∀ (j : Nat) t v, Try.f6.params[j]? = some t → args[j]? = some v → Value.okWide Try.prog W .any base t v := hval0
  have hW' := hW
  obtain ⟨p, q, hA0, hV, rfl, hfz, hnd⟩ := hW
  have hA : DataW.TrodAll enc Try.prog W 0 (fun _ => true) true Try.f6.params.toList args.toList ds p := hA0
  rw [Try.params6] at hA hval
  obtain ⟨v0, vs0, d0, ds0, p0, q0, hargs, rfl, rfl, h0, r0⟩ := trodAll_cons hA
  obtain ⟨v1, vs1, d1, ds1, p1, q1, rfl, rfl, rfl, h1, r1⟩ := trodAll_cons r0
  obtain ⟨rfl, rfl, rfl⟩ := trodAll_nil r1
  obtain rfl : args = #[v0, v1] := by cases args; simp_all
  obtain ⟨rfl, rfl⟩ := trodVars_none hV
  obtain ⟨a0, len0, cap0, rfl⟩ := okWide_slice Try.underlying42 (hval 0 42 v0 rfl rfl)
  have k0 := h0
  have lt0 : ∀ x ∈ p0, x.block < W.heap.size := by obtain ⟨m, hm⟩ := k0; exact DataW.trod_lt m _ _ _ hm
  obtain ⟨z0, w0⟩ : ∃ zs : Nat → Int, InRow W a0 len0 zs := by
    obtain ⟨fuel, hf⟩ := h0
    rcases open_ints Try.underlying42 Try.underlying3 (by kernel_rfl) hf with ⟨hcs, _⟩ | ⟨x, l, c, zs, hcs, _, hl, hm, hz, _, hcell, hwz⟩
    · simp [Value.cells] at hcs
      obtain ⟨rfl, rfl, rfl⟩ := hcs
      exact ⟨fun _ => 0, by unfold InRow; exact ⟨by omega, fun k hk => by omega⟩⟩
    · simp [Value.cells] at hcs
      obtain ⟨rfl, rfl, rfl⟩ := hcs
      exact ⟨_, inRow_of (zs := zs) (.inr ⟨_, rfl, hl, hm, by simpa using hz, hcell, hwz⟩)⟩
  obtain ⟨a1, len1, cap1, rfl⟩ := okWide_slice Try.underlying42 (hval 1 42 v1 rfl rfl)
  have k1 := h1
  have lt1 : ∀ x ∈ p1, x.block < W.heap.size := by obtain ⟨m, hm⟩ := k1; exact DataW.trod_lt m _ _ _ hm
  obtain ⟨z1, w1⟩ : ∃ zs : Nat → Int, InRow W a1 len1 zs := by
    obtain ⟨fuel, hf⟩ := h1
    rcases open_ints Try.underlying42 Try.underlying3 (by kernel_rfl) hf with ⟨hcs, _⟩ | ⟨x, l, c, zs, hcs, _, hl, hm, hz, _, hcell, hwz⟩
    · simp [Value.cells] at hcs
      obtain ⟨rfl, rfl, rfl⟩ := hcs
      exact ⟨fun _ => 0, by unfold InRow; exact ⟨by omega, fun k hk => by omega⟩⟩
    · simp [Value.cells] at hcs
      obtain ⟨rfl, rfl, rfl⟩ := hcs
      exact ⟨_, inRow_of (zs := zs) (.inr ⟨_, rfl, hl, hm, by simpa using hz, hcell, hwz⟩)⟩
  clear hA0 hval0
  refine (walk a0 len0 cap0 z0 a1 len1 cap1 z1 W w0 w1).mono fun e W' ⟨he, bel⟩ => ?_
  subst he
  exact ⟨_, rfl, _, _, _, [], _, [], hW', trodAll_mk1 (shut_bool Try.underlying4 _), (trodAll_cons_mk (Below.trod laidOut (by kernel_rfl) (of_decide_eq_true (by kernel_rfl)) k0 bel lt0) (trodAll_cons_mk (Below.trod laidOut (by kernel_rfl) (of_decide_eq_true (by kernel_rfl)) k1 bel lt1) trodAll_mk0)), rfl, bel.frame _, fun h => by cases h⟩

theorem over : Rows.boxLongRow.holds Try.pinned (OpenSpec.ofChange Rows.boxLongSpec) :=
  OpenClaim.holds_of_wide 6 Try.f6 rfl rfl rfl rfl rfl rfl rfl ⟨rfl, rfl, rfl, rfl, rfl⟩ rfl rfl rfl rfl rfl (by kernel_rfl) Try.func6 (by kernel_rfl)
    (of_decide_eq_true (by kernel_rfl)) (by unfold Func.isWrapper; first | (rw [if_pos (by decide +kernel)]; kernel_rfl) | (rw [if_neg (by decide +kernel)]; exact ⟨rfl, rfl⟩))
    (fun os started H enc _ => lifted os started H enc)

theorem proved : Rows.BoxLongSaid := over
#print axioms proved
end Go.Proofs.Ytgdmcinfgfejcaa.boxLong
