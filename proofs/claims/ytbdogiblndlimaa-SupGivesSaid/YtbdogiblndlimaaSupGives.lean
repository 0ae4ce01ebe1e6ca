/- any numbers: a child that crashes so often is started again as long as no more than M crashes lie within T ticks; then all ends -/
import Derived.Test.YtbdogiblndlimaaRows
import Derived.Test.YtbdogiblndlimaaSuUse
import Derived.BigGuardPart
import Derived.WalkKit
import Derived.ProofKit
import Derived.OpenShut
import Derived.ShutString
import Derived.ChangeOld
import Derived.Below
import Derived.Deep.Strs
namespace Go.Proofs.Ytbdogiblndlimaa.supGives
open Go.ChangeShapes Go.WideShapes Go.ChangeAt Go.RowKit
open Go.ChangeMaps (open_string shut_string)
set_option linter.unusedVariables false

theorem own : ownKnob Try.prog.godebug = none := by kernel_rfl
theorem laidOut : laidOutB Try.prog = true := by kernel_rfl

def kc : Ch := (opF, 0, 5)
/-- the one child is up; so many notes -/
def GS (m tt : Nat) (ts : List Nat) (a b : Nat) : Su := ⟨1, [⟨0, 5, true⟩], m, tt, ts, 1, 0, a, b, 0, 0, false⟩
def tsAt (m g i : Nat) : List Nat := ((List.range i).drop (i - m)).map (· * g)
theorem tsAt_len (m g i : Nat) : (tsAt m g i).length = min i m := by simp [tsAt]; omega
theorem tsAt_app {m g i : Nat} : tsAt m g i ++ [i * g] = ((List.range (i + 1)).drop (i - m)).map (· * g) := by
  unfold tsAt
  rw [List.range_succ, List.drop_append_of_le_length (by simp), List.map_append]; rfl
theorem tsAt_head {m g i : Nat} : (tsAt m g i ++ [i * g]).headD 0 = (i - m) * g := by
  rw [tsAt_app, List.headD_eq_head?_getD, List.head?_eq_getElem?, List.getElem?_map, List.getElem?_drop, List.getElem?_range]
  simp
  omega
theorem note_ts {m tt g i : Nat} (hno : noteB m tt (tsAt m g i) (i * g) = false) : noteTs m tt (tsAt m g i) (i * g) = tsAt m g (i + 1) := by
  have h := of_decide_eq_false hno
  rw [tsAt_len, tsAt_head] at h
  unfold noteTs
  rw [tsAt_len, tsAt_head]
  by_cases h1 : min i m < m
  · rw [if_pos h1, tsAt_app]
    unfold tsAt
    rw [show i - m = 0 by omega, show i + 1 - m = 0 by omega]
  · rw [if_neg h1, if_neg (fun e => h ⟨by omega, e⟩), tsAt_app]
    unfold tsAt
    rw [← List.map_tail, List.tail_drop, show i - m + 1 = i + 1 - m by omega]
theorem note_b {m tt g i : Nat} : noteB m tt (tsAt m g i) (i * g) = decide (m ≤ i ∧ m * g < tt) := by
  unfold noteB
  rw [tsAt_len, tsAt_head]
  by_cases h : m ≤ i
  · have : i * g - (i - m) * g = m * g := by
      rw [← Nat.sub_mul]
      congr 1
      omega
    rw [this]
    simp [h]
  · simp [h] <;> omega
/-- so many are recent, of the first -/
def cntG (i g tt k : Nat) : Nat := ((List.range k).filter fun q => decide ((i - q) * g < tt)).length
theorem cntG_succ (i g tt k : Nat) : cntG i g tt (k + 1) = cntG i g tt k + if (i - k) * g < tt then 1 else 0 := by
  unfold cntG
  rw [List.range_succ, List.filter_append, List.length_append]
  congr 1
  by_cases h : (i - k) * g < tt <;> simp [h]
theorem cntG_le {i g tt a : Nat} (h : ∀ q, q < a → ¬ (i - q) * g < tt) : ∀ k, cntG i g tt k ≤ k - a
  | 0 => by simp [cntG]
  | k + 1 => by
    have ih := cntG_le h k
    rw [cntG_succ]
    by_cases hk : k < a
    · rw [if_neg (h k hk)]; omega
    · split <;> omega
theorem cntG_ge {i g tt a : Nat} (h : ∀ q, a ≤ q → (i - q) * g < tt) : ∀ k, k - a ≤ cntG i g tt k
  | 0 => by simp
  | k + 1 => by
    have ih := cntG_ge h k
    rw [cntG_succ]
    by_cases hk : a ≤ k
    · rw [if_pos (h k hk)]; omega
    · omega
theorem cntG_bound (i g tt k : Nat) : cntG i g tt k ≤ k := by
  have := cntG_le (i := i) (g := g) (tt := tt) (a := 0) (fun q h => absurd h (by omega)) k
  omega
theorem cntG_iff (i g tt m : Nat) : m < cntG i g tt (i + 1) ↔ m ≤ i ∧ m * g < tt := by
  constructor
  · intro h
    by_cases hm : m ≤ i
    · refine ⟨hm, ?_⟩
      by_cases ht : m * g < tt
      · exact ht
      · have h2 := cntG_le (i := i) (g := g) (tt := tt) (a := i - m + 1) (fun q hq => by
          have : m * g ≤ (i - q) * g := Nat.mul_le_mul_right _ (by omega)
          omega) (i + 1)
        omega
    · have := cntG_bound i g tt (i + 1)
      omega
  · rintro ⟨hm, ht⟩
    have h2 := cntG_ge (i := i) (g := g) (tt := tt) (a := i - m) (fun q hq => by
      have : (i - q) * g ≤ m * g := Nat.mul_le_mul_right _ (by omega)
      omega) (i + 1)
    omega
theorem down_no_end {m tt now a b : Nat} {ts : List Nat} (normal : Bool) (h : noteB m tt ts now = false) : downS (GS m tt ts a b) 0 normal now = GS m tt (noteTs m tt ts now) 1 1 ∧ downA (GS m tt ts a b) 0 normal now = [(1, 0)] := by
  have e : planS (downOf (GS m tt ts a b) 0) 0 now = ⟨1, [⟨0, 5, false⟩], m, tt, noteTs m tt ts now, 1, 0, 1, 1, 0, 0, false⟩ := by
    unfold planS
    show { (if noteB m tt ts now then endS _ else againS _ 0) with hl := 0 } = _
    rw [h]; rfl
  have h1 : downS (GS m tt ts a b) 0 normal now = turnS (planS (downOf (GS m tt ts a b) 0) 0 now) now := by
    unfold downS
    rw [if_pos (show (GS m tt ts a b).st = 1 from rfl), if_pos (show againB (rAt (GS m tt ts a b).cs 0) normal = true from by cases normal <;> rfl)]
  have h2 : downA (GS m tt ts a b) 0 normal now = turnA (planS (downOf (GS m tt ts a b) 0) 0 now) := by
    unfold downA
    rw [if_pos (show (GS m tt ts a b).st = 1 from rfl), if_pos (show againB (rAt (GS m tt ts a b).cs 0) normal = true from by cases normal <;> rfl)]
  rw [h1, h2, e]
  exact ⟨rfl, rfl⟩
theorem down_end {m tt now a b : Nat} {ts : List Nat} (normal : Bool) (h : noteB m tt ts now = true) : (downS (GS m tt ts a b) 0 normal now).st = 3 ∧ downA (GS m tt ts a b) 0 normal now = [(4, 0)] := by
  have e : planS (downOf (GS m tt ts a b) 0) 0 now = ⟨1, [⟨0, 5, false⟩], m, tt, noteTs m tt ts now, 1, 0, 1, 2, 0, 0, false⟩ := by
    unfold planS
    show { (if noteB m tt ts now then endS _ else againS _ 0) with hl := 0 } = _
    rw [h]; rfl
  have h1 : downS (GS m tt ts a b) 0 normal now = turnS (planS (downOf (GS m tt ts a b) 0) 0 now) now := by
    unfold downS
    rw [if_pos (show (GS m tt ts a b).st = 1 from rfl), if_pos (show againB (rAt (GS m tt ts a b).cs 0) normal = true from by cases normal <;> rfl)]
  have h2 : downA (GS m tt ts a b) 0 normal now = turnA (planS (downOf (GS m tt ts a b) 0) 0 now) := by
    unfold downA
    rw [if_pos (show (GS m tt ts a b).st = 1 from rfl), if_pos (show againB (rAt (GS m tt ts a b).cs 0) normal = true from by cases normal <;> rfl)]
  rw [h1, h2, e]
  exact ⟨rfl, rfl⟩
theorem begin_g (m tt : Nat) : beginS (newS ⟨1, (m : Int), (tt : Int)⟩ [kc]) = GS m tt (tsAt m 0 0) 0 0 := by
  have : tsAt m 0 0 = [] := by simp [tsAt]
  rw [this]; rfl
set_option maxHeartbeats 8000000 in
set_option maxRecDepth 100000 in
theorem walk (a0 a1 a2 a3 : Int) (w : World) (w1 : (Lit.int .i64 a0).wf = true) (w2 : (Lit.int .i64 a1).wf = true) (w3 : (Lit.int .i64 a2).wf = true) (w4 : (Lit.int .i64 a3).wf = true) :
    Calls Try.prog 5 #[.int .i64 a0, .int .i64 a1, .int .i64 a2, .int .i64 a3] w fun e w' => e = .returned (.bool true) ∧ Below w.heap.size w w' := by
  obtain ⟨b1, b2⟩ := bounds_i64 w1
  obtain ⟨b3, b4⟩ := bounds_i64 w2
  obtain ⟨b5, b6⟩ := bounds_i64 w3
  obtain ⟨b7, b8⟩ := bounds_i64 w4
  clear w1 w2 w3 w4
  have HP0 := Lib.hid (fun w => place_any w a0 8 b1 b2 (by omega) (by omega))
  have HP1 := Lib.hid (fun w => place_any w a1 60 b3 b4 (by omega) (by omega))
  have HP2 := Lib.hid (fun w => place_any w a2 20 b5 b6 (by omega) (by omega))
  have HP3 := Lib.hid (fun w => place_any w a3 30 b7 b8 (by omega) (by omega))
  obtain ⟨M, hM, hM2⟩ : ∃ K : Nat, a0 % 8 = K ∧ K < 8 := ⟨(a0 % 8).toNat, by omega, by omega⟩
  obtain ⟨T, hT, hT2⟩ : ∃ K : Nat, a1 % 60 = K ∧ K < 60 := ⟨(a1 % 60).toNat, by omega, by omega⟩
  obtain ⟨g, hg, hg2⟩ : ∃ K : Nat, a2 % 20 = K ∧ K < 20 := ⟨(a2 % 20).toNat, by omega, by omega⟩
  obtain ⟨N, hN, hN2⟩ : ∃ K : Nat, a3 % 30 = K ∧ K < 30 := ⟨(a3 % 30).toNat, by omega, by omega⟩
  rw [hM] at HP0
  rw [hT] at HP1
  rw [hg] at HP2
  rw [hN] at HP3
  clear b1 b2 b3 b4 b5 b6 b7 b8 hM hT hg hN
  have hspan : (1 : Int) + (T : Int) = ((T + 1 : Nat) : Int) := by omega
  have hf : ChOk kc := by unfold ChOk maxLen kc; decide
  obtain ⟨wa, hwa⟩ : ∃ wa, w.alloc (.cells #[.string opF, .int .i64 0, .int .i64 5] 29) = wa := ⟨_, rfl⟩
  have hka : Kp (fun _ => False) w wa := by rw [← hwa]; exact (Kp.refl _ w).alloc _
  have hrow : ChR (wa.alloc (.cells #[.string opF, .int .i64 0, .int .i64 5] 29)) (.slice (some ⟨wa.heap.size, 0, none⟩) 1 1) [kc] :=
    ChR.of (ch_lit (cs := [kc]) wa rfl (by omega)) (by intro c hc; simp at hc; subst hc; exact hf)
  have hkb : Kp (fun _ => False) w (wa.alloc (.cells #[.string opF, .int .i64 0, .int .i64 5] 29)) := hka.alloc _
  have hri : rightL ⟨1, (M : Int), ((T + 1 : Nat) : Int)⟩ [kc] = [] := rightL_nil (by
    simp [spOk, sgOk, isInB]
    omega) (by
    intro c hc
    simp at hc
    subst hc
    decide)
  have HN := Lib.hid (ss_new (w0 := w) (C := noC) (s := ⟨1, (M : Int), ((T + 1 : Nat) : Int)⟩) hrow (by show (-9223372036854775808 : Int) ≤ (M : Int) ∧ (M : Int) ≤ 9223372036854775807; omega) (by show (-9223372036854775808 : Int) ≤ ((T + 1 : Nat) : Int) ∧ ((T + 1 : Nat) : Int) ≤ 9223372036854775807; omega) hri hkb (fun q e => e.elim))
  have HO0 := Lib.hid (newS_ok hri 0)
  unfold specV at HN
  rw [← hspan] at HN
  rw [hspan] at HN
  have HSP := Lib.hid hspan
  clear hrow hkb hri hka hf hspan
  unfold kc opF at HN
  go_enter Try.func5, Try.ntmps5
  go_wp2_with fail
  refine (HP0.out _).mono ?_
  rintro e w' ⟨rfl, rfl⟩
  clear HP0
  go_wp2_with fail
  refine (HP1.out _).mono ?_
  rintro e w' ⟨rfl, rfl⟩
  clear HP1
  go_wp2_with fail
  refine (HP2.out _).mono ?_
  rintro e w' ⟨rfl, rfl⟩
  clear HP2
  go_wp2_with fail
  refine (child_any 0 _).mono ?_
  rintro e w1 ⟨rfl, h1⟩
  rw [hwa] at h1
  subst h1
  unfold opF
  simp only [HSP.out]
  go_wp2_with fail
  refine HN.out.mono ?_
  rintro e w3 ⟨b, rfl, hS, -⟩
  have hS' : SS w noC w3 b (newS ⟨1, (M : Int), ((T + 1 : Nat) : Int)⟩ [kc]) := hS
  have HB := Lib.hid (ss_begin hS' (by show 1 ≤ 32; omega))
  rw [begin_g] at HB
  have HO1 := Lib.hid HO0.out.begin
  rw [begin_g] at HO1
  have HAW := Lib.hid suAwake_any
  clear hS hS' HN hwa HO0
  go_wp2_with fail
  refine HB.out.mono ?_
  rintro e w4 ⟨va, rfl, ha, hna, hS1, -⟩
  obtain ⟨pa, ca, rfl, -, -⟩ := ha.form
  have HL0 : Hid (∃ a c, SS w noC w4 b (GS M (T + 1) (tsAt M g 0) a c) ∧ SuOk (GS M (T + 1) (tsAt M g 0) a c) (0 * g)) := by
    have e0 : tsAt M g 0 = tsAt M 0 0 := by simp [tsAt]
    rw [e0, Nat.zero_mul]
    exact Lib.hid ⟨0, 0, hS1.sub fun _ e => e.elim, HO1.out⟩
  clear hS1 HB ha hna HO1
  go_wp2_with fail
  go_loopg [14, 15, 16, 17] N (fun gk s14 s15 s16 s17 wr => ∃ (i : Nat) (y15 y16 y17 : Value), i ≤ N ∧ gk = N - i ∧ s14 = .int .i64 (i : Nat) ∧ s15 = y15 ∧ s16 = y16 ∧ s17 = y17 ∧ Hid (∃ a c, SS w noC wr b (GS M (T + 1) (tsAt M g i) a c) ∧ SuOk (GS M (T + 1) (tsAt M g i) a c) (i * g)))
  case atStart => exact ⟨0, _, _, _, by omega, rfl, rfl, rfl, rfl, rfl, HL0⟩
  case round =>
    obtain ⟨i, y15, y16, y17, hi, rfl, rfl, h15, h16, h17, HR⟩ := hrel
    obtain rfl := h15.symm
    obtain rfl := h16.symm
    obtain rfl := h17.symm
    clear HL0
    by_cases hlt : i < N
    · have hii : (i : Int) < N := by omega
      obtain ⟨a, c, hS, hO⟩ := HR.out
      have hb600 : i * g ≤ 600 := by
        have := Nat.mul_le_mul (show i ≤ 29 by omega) (show g ≤ 19 by omega)
        omega
      have hc : ((i * g : Nat) : Int) = (i : Int) * (g : Int) := Int.natCast_mul i g
      have hm1 : (0 : Int) ≤ (i : Int) * (g : Int) := by rw [← hc]; omega
      have hm2 : (i : Int) * (g : Int) ≤ 600 := by rw [← hc]; omega
      have hD := fun normal => ss_down hS hO (by omega) (c := 0) rfl normal
      simp only [hc] at hD
      have HD := Lib.hid hD
      have HO := Lib.hid (fun normal => hO.down (c := 0) (by show 0 < 1; omega) normal)
      obtain ⟨q, hq⟩ : ∃ q, noteB M (T + 1) (tsAt M g i) (i * g) = q := ⟨_, rfl⟩
      have HQ := Lib.hid hq
      have Hc := Lib.hid hc
      clear hS hO HR hD hq hc
      go_wp2_with fail
      refine (HP3.out _).mono ?_
      rintro e w' ⟨rfl, rfl⟩
      go_wp2_with fail
      refine (HD.out _).mono ?_
      rintro e w5 ⟨vl, rfl, hl, -, hS5, -⟩
      obtain ⟨nm, hnm⟩ : ∃ nm : Bool, downA (GS M (T + 1) (tsAt M g i) a c) 0 nm (i * g) = downA (GS M (T + 1) (tsAt M g i) a c) 0 nm (i * g) := ⟨true, rfl⟩
      have hA : ∀ normal, downA (GS M (T + 1) (tsAt M g i) a c) 0 normal (i * g) = [(if q = true then 4 else 1, 0)] := fun normal => by
        cases q with
        | true => rw [(down_end normal HQ.out).2]; rfl
        | false => rw [(down_no_end normal HQ.out).2]; rfl
      rw [hA] at hl
      have hS5b : (q = true → ∃ S, S.st = 3 ∧ SS w (fun r => vl.ownBlock = some r) w5 b S) ∧ (q = false → SS w (fun r => vl.ownBlock = some r) w5 b (GS M (T + 1) (tsAt M g (i + 1)) 1 1) ∧ SuOk (GS M (T + 1) (tsAt M g (i + 1)) 1 1) ((i + 1) * g)) := by
        refine ⟨fun hqt => ⟨_, (down_end _ (HQ.out.trans hqt)).1, hS5.sub fun r hr => .inr hr⟩, fun hqf => ?_⟩
        have hq' := HQ.out.trans hqf
        have h5 := hS5.sub (C' := fun r => vl.ownBlock = some r) fun r hr => .inr hr
        rw [(down_no_end _ hq').1, note_ts hq'] at h5
        have h6 := HO.out true
        rw [(down_no_end _ hq').1, note_ts hq'] at h6
        exact ⟨h5, h6.mono (Nat.mul_le_mul_right _ (by omega))⟩
      obtain ⟨pl, cl, rfl, -, -⟩ := hl.form
      have hl1 : ([(if q = true then 4 else 1, 0)] : Acts).length = 1 := rfl
      rw [hl1] at hl hS5b
      rw [hl1]
      have HS5 := Lib.hid hS5b
      have HL := Lib.hid hl
      clear hl hS5 hS5b HD HO hA hl1 hnm
      go_wp2_with fail
      go_loopg [16, 17] (i + 1) (fun gk s16 s17 wr => ∃ (k : Nat), k ≤ i + 1 ∧ gk = i + 1 - k ∧ s16 = .int .i64 (cntG i g (T + 1) k : Nat) ∧ s17 = .int .i64 (k : Nat) ∧ wr = w5)
      case atStart => exact ⟨0, by omega, rfl, rfl, rfl, rfl⟩
      case round =>
        obtain ⟨k, hk, rfl, rfl, rfl, hw5⟩ := hrel
        obtain rfl := hw5.symm
        have hcb := cntG_bound i g (T + 1) k
        obtain ⟨R, hR⟩ : ∃ R, cntG i g (T + 1) k = R := ⟨_, rfl⟩
        rw [hR] at hcb
        simp only [hR]
        by_cases hki : k ≤ i
        · have hkk : (k : Int) ≤ i := by omega
          have hcs : (((i - k) * g : Nat) : Int) = ((i : Int) - (k : Int)) * (g : Int) := by rw [Int.natCast_mul, Int.ofNat_sub hki]
          have hb2 : (i - k) * g ≤ 600 := by
            have := Nat.mul_le_mul (show i - k ≤ 29 by omega) (show g ≤ 19 by omega)
            omega
          have hn1 : (0 : Int) ≤ ((i : Int) - (k : Int)) * (g : Int) := by rw [← hcs]; omega
          have hn2 : ((i : Int) - (k : Int)) * (g : Int) ≤ 600 := by rw [← hcs]; omega
          have hst := cntG_succ i g (T + 1) k
          rw [hR] at hst
          by_cases hr : (i - k) * g < T + 1
          · have hr2 : ((i : Int) - (k : Int)) * (g : Int) < (T : Int) + 1 := by rw [← hcs]; omega
            rw [if_pos hr] at hst
            have HN := Lib.hid hst
            clear hR hst hcs hr
            go_wp2_with fail
            go_roundg (i + 1 - (k + 1))
            case measure => omega
            case rel => exact ⟨k + 1, by omega, rfl, by rw [HN.out]; go_num, by go_num, rfl⟩
          · have hr2 : ¬ ((i : Int) - (k : Int)) * (g : Int) < (T : Int) + 1 := by rw [← hcs]; omega
            rw [if_neg hr] at hst
            have HN := Lib.hid hst
            clear hR hst hcs hr
            go_wp2_with fail
            go_roundg (i + 1 - (k + 1))
            case measure => omega
            case rel => exact ⟨k + 1, by omega, rfl, by rw [HN.out]; rfl, by go_num, rfl⟩
        · have hkk : ¬ (k : Int) ≤ i := by omega
          obtain rfl : k = i + 1 := by omega
          have hiff := cntG_iff i g (T + 1) M
          rw [hR, ← decide_eq_decide (p := M < R) (q := M ≤ i ∧ M * g < T + 1)] at hiff
          have hq2 : decide (M < R) = q := by rw [hiff, ← note_b]; exact HQ.out
          clear hR hiff
          cases q with
          | true =>
            have hMR : M < R := of_decide_eq_true hq2
            have hMI : (M : Int) < (R : Int) := by omega
            obtain ⟨S, hS3, hSS⟩ := HS5.out.1 rfl
            have HSA := Lib.hid (sameActs_any (show AcW _ (.slice pl 1 cl) [(4, 0)] from HL.out.same ((Kp.refl _ w5).alloc (.cells #[.int .i64 4, .int .i64 0] 40))) (one_lit w5 4 0) (by decide))
            have HS7 : Hid (∀ k, SS w noC ((w5.alloc (.cells #[.int .i64 4, .int .i64 0] 40)).drewN k) b S) := Lib.hid fun k => (hSS.same (su_kpN ((Kp.refl _ w5).alloc _) k)).sub fun _ e => e.elim
            have HS3 := Lib.hid hS3
            clear hSS hS3 HS5 HL hq2 hcb
            go_wp2_with fail
            refine HSA.out.mono ?_
            rintro e w7 ⟨rfl, z, hk7⟩
            have hS7 : SS w noC w7 b S := by rw [hk7]; exact HS7.out z
            have HDn := Lib.hid (ss_done hS7)
            rw [decide_eq_true HS3.out] at HDn
            have HK := Lib.hid hS7.kp0
            clear hk7 HS7 HSA hS7
            go_wp2_with fail
            refine HDn.out.mono ?_
            rintro e w8 ⟨rfl, rfl⟩
            clear HDn
            go_wp2_with fail
            refine (HAW.out _).mono ?_
            rintro e w10 ⟨rfl, hk10⟩
            have HG := Lib.hid ((HK.out.trans' hk10).below w.heap.size (Nat.le_refl _) fun _ e => e.elim)
            clear hk10 HK HAW
            go_wp2_with fail
            go_ret
            exact ⟨rfl, HG.out⟩
          | false =>
            have hMR : ¬ M < R := of_decide_eq_false hq2
            have hMI : ¬ (M : Int) < (R : Int) := by omega
            obtain ⟨hSS, hO2⟩ := HS5.out.2 rfl
            have HSA := Lib.hid (sameActs_any (show AcW _ (.slice pl 1 cl) [(1, 0)] from HL.out.same ((Kp.refl _ w5).alloc (.cells #[.int .i64 1, .int .i64 0] 40))) (one_lit w5 1 0) (by decide))
            have HS7 : Hid (∀ k, SS w noC ((w5.alloc (.cells #[.int .i64 1, .int .i64 0] 40)).drewN k) b (GS M (T + 1) (tsAt M g (i + 1)) 1 1)) := Lib.hid fun k => (hSS.same (su_kpN ((Kp.refl _ w5).alloc _) k)).sub fun _ e => e.elim
            have HO2 := Lib.hid hO2
            clear hSS hO2 HS5 HL hq2 hcb
            go_wp2_with fail
            refine HSA.out.mono ?_
            rintro e w7 ⟨rfl, z, hk7⟩
            have hS7 : SS w noC w7 b (GS M (T + 1) (tsAt M g (i + 1)) 1 1) := by rw [hk7]; exact HS7.out z
            have HDn : Hid (Calls Try.prog 20 #[.pointer (some ⟨b, 0, none⟩)] w7 fun e w' => e = .returned (.bool false) ∧ w7 = w') := Lib.hid (ss_done hS7)
            have HF : Hid (∃ a c, SS w noC w7 b (GS M (T + 1) (tsAt M g (i + 1)) a c) ∧ SuOk (GS M (T + 1) (tsAt M g (i + 1)) a c) ((i + 1) * g)) := Lib.hid ⟨1, 1, hS7, HO2.out⟩
            clear hk7 HS7 HSA hS7 HO2
            go_wp2_with fail
            refine HDn.out.mono ?_
            rintro e w8 ⟨rfl, rfl⟩
            clear HDn
            go_wp2_with fail
            go_roundg (N - (i + 1))
            case measure => omega
            case rel => exact ⟨i + 1, _, _, _, by omega, rfl, by go_num, rfl, rfl, rfl, HF⟩
    · have hii : ¬ (i : Int) < N := by omega
      obtain ⟨a, c, hS, hO⟩ := HR.out
      have HK := Lib.hid hS.kp0
      clear hS hO HR
      go_wp2_with fail
      refine (HP3.out _).mono ?_
      rintro e w' ⟨rfl, rfl⟩
      go_wp2_with fail
      refine (HAW.out _).mono ?_
      rintro e w10 ⟨rfl, hk10⟩
      have HG := Lib.hid ((HK.out.trans' hk10).below w.heap.size (Nat.le_refl _) fun _ e => e.elim)
      clear hk10 HK HAW
      go_wp2_with fail
      go_ret
      exact ⟨rfl, HG.out⟩

set_option maxRecDepth 100000 in
theorem lifted (os : Os) (started : os.Started) (H : Type) (enc : TypeId × Value → H) :
    ReturnsInHanded {} Try.checked os 5 .any (Rows.supGivesSpec.pre6 enc Try.prog Try.f5 Rows.supGivesRow.domain false) (Rows.supGivesSpec.post enc Try.prog Try.f5 false true false false) := by
  refine returnsInHanded_of_change (C := Try.checked) own started (by kernel_rfl) Try.func5
    (ChangeSpec.witness6 (enc := enc) (C := Try.checked) false ⟨#[], #[.int .i64 0, .int .i64 0, .int .i64 0, .int .i64 0], []⟩ 8 (by kernel_rfl) (by kernel_rfl) (by kernel_rfl) (by kernel_rfl)) ?_
  intro W base args ds gs before hval0 hW hcnd _
  have hval : ∀ (j : Nat) t v, Try.f5.params[j]? = some t → args[j]? = some v → Value.okWide Try.prog W .any base t v := hval0
  have hW' := hW
  obtain ⟨p, q, hA0, hV, rfl, hfz, hnd⟩ := hW
  have hA : DataW.TrodAll enc Try.prog W 0 (fun _ => true) true Try.f5.params.toList args.toList ds p := hA0
  rw [Try.params5] at hA hval
  obtain ⟨v0, vs0, d0, ds0, p0, q0, hargs, rfl, rfl, h0, r0⟩ := trodAll_cons hA
  obtain ⟨v1, vs1, d1, ds1, p1, q1, rfl, rfl, rfl, h1, r1⟩ := trodAll_cons r0
  obtain ⟨v2, vs2, d2, ds2, p2, q2, rfl, rfl, rfl, h2, r2⟩ := trodAll_cons r1
  obtain ⟨v3, vs3, d3, ds3, p3, q3, rfl, rfl, rfl, h3, r3⟩ := trodAll_cons r2
  obtain ⟨rfl, rfl, rfl⟩ := trodAll_nil r3
  obtain rfl : args = #[v0, v1, v2, v3] := by cases args; simp_all
  obtain ⟨rfl, rfl⟩ := trodVars_none hV
  obtain ⟨a0, rfl, rfl, rfl, w0⟩ := open_int Try.underlying3 (hval 0 3 v0 rfl rfl) h0
  obtain ⟨a1, rfl, rfl, rfl, w1⟩ := open_int Try.underlying3 (hval 1 3 v1 rfl rfl) h1
  obtain ⟨a2, rfl, rfl, rfl, w2⟩ := open_int Try.underlying3 (hval 2 3 v2 rfl rfl) h2
  obtain ⟨a3, rfl, rfl, rfl, w3⟩ := open_int Try.underlying3 (hval 3 3 v3 rfl rfl) h3
  clear hA0 hval0
  simp only [List.append_nil] at hW'
  refine (walk a0 a1 a2 a3 W w0 w1 w2 w3).mono fun e W' ⟨he, bel⟩ => ?_
  subst he
  exact ⟨_, rfl, _, _, _, [], _, [], hW', trodAll_mk1 (shut_bool Try.underlying4 _), (trodAll_cons_mk (shut_int Try.underlying3 w0) (trodAll_cons_mk (shut_int Try.underlying3 w1) (trodAll_cons_mk (shut_int Try.underlying3 w2) (trodAll_cons_mk (shut_int Try.underlying3 w3) trodAll_mk0)))), rfl, bel.frame _, fun h => by cases h⟩

theorem over : Rows.supGivesRow.holds Try.pinned (OpenSpec.ofChange Rows.supGivesSpec) :=
  OpenClaim.holds_of_wide 5 Try.f5 rfl rfl rfl rfl rfl rfl rfl ⟨rfl, rfl, rfl, rfl, rfl⟩ rfl rfl rfl rfl rfl (by kernel_rfl) Try.func5 (by kernel_rfl)
    (of_decide_eq_true (by kernel_rfl)) (by unfold Func.isWrapper; first | (rw [if_pos (by decide +kernel)]; kernel_rfl) | (rw [if_neg (by decide +kernel)]; exact ⟨rfl, rfl⟩))
    (fun os started H enc _ => lifted os started H enc)

theorem proved : Rows.SupGivesSaid := over
#print axioms proved
end Go.Proofs.Ytbdogiblndlimaa.supGives
