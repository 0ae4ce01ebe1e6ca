/- numbers that were never given are nobody's: they do not live, are not dropped, have no slot, get no name -/
import Derived.Test.YtdcmdidikengbaaRows
import Derived.Test.YtdcmdidikengbaaTbUse
import Derived.Test.YtdcmdidikengbaaErr
import Derived.WalkKit
import Derived.ProofKit
import Derived.OpenShut
import Derived.ShutString
import Derived.ChangeOld
import Derived.Below
import Derived.Deep.Strs
namespace Go.Proofs.Ytdcmdidikengbaa.tableForeign
open Go.ChangeShapes Go.WideShapes Go.ChangeAt Go.RowKit
open Go.ChangeMaps (open_string shut_string)
set_option linter.unusedVariables false

theorem own : ownKnob Try.prog.godebug = none := by kernel_rfl
theorem laidOut : laidOutB Try.prog = true := by kernel_rfl

theorem fault_alloc {w : World} (op : ByteArray) (n : Int) (k : Int) (hk : k ≠ 0) :
    Chain (w.alloc (.cells #[.string op, .int .i64 n, .iface 39 (.int .i64 k)] 41)) (.iface 38 (.pointer (some ⟨w.heap.size, 0, none⟩))) [Lk.fault op n, Lk.kind k] ∧
      Kp (fun _ => False) w (w.alloc (.cells #[.string op, .int .i64 n, .iface 39 (.int .i64 k)] 41)) :=
  ⟨.inr ⟨rfl, _, _, rfl, heap_alloc_new w _, .inl ⟨rfl, rfl, rfl, rfl, hk⟩⟩, (Kp.refl _ w).alloc _⟩
set_option maxHeartbeats 8000000 in
set_option maxRecDepth 100000 in
theorem walk (a0 a1 : Int) (w : World) (w1 : (Lit.int .i64 a0).wf = true) (w2 : (Lit.int .i64 a1).wf = true) :
    Calls Try.prog 3 #[.int .i64 a0, .int .i64 a1] w fun e w' => e = .returned (.bool true) ∧ Below w.heap.size w w' := by
  obtain ⟨b1, b2⟩ := bounds_i64 w1
  obtain ⟨b3, b4⟩ := bounds_i64 w2
  clear w1 w2
  obtain ⟨N, hN, hN2⟩ : ∃ K : Nat, a0 % 11 = K ∧ K ≤ 10 := ⟨(a0 % 11).toNat, by omega, by omega⟩
  have HP := Lib.hid (fun w => place_any w a0 11 b1 b2 (by omega) (by omega))
  rw [hN] at HP
  have HNW := Lib.hid (show Calls Try.prog 9 #[.int .i64 10] w _ from ts_new (C := noC) w 10 (by omega) (by omega) (fun _ e => e.elim))
  clear hN b1 b2
  go_enter Try.func3, Try.ntmps3
  go_wp2_with fail
  refine HNW.out.mono ?_
  rintro e w1 ⟨b, rfl, h1, -⟩
  have H1 := Lib.hid h1
  clear h1 HNW
  go_wp2_with fail
  refine (HP.out _).mono ?_
  rintro e w' ⟨rfl, rfl⟩
  clear HP
  go_wp2_with fail
  go_loopg [8] N (fun gk s8 wr => ∃ i : Nat, i ≤ N ∧ gk = N - i ∧ s8 = .int .i64 (i : Nat) ∧ Hid (TS w noC wr b 10 (64 * i) (firstN (min i 10)) []))
  case atStart => exact ⟨0, by omega, rfl, rfl, Lib.hid H1.out⟩
  case round =>
    obtain ⟨i, hi, rfl, rfl, HT⟩ := hrel
    clear H1
    by_cases hlt : i < N
    · have hli : (i : Int) < N := by omega
      have HA := Lib.hid (show Calls Try.prog 11 #[.pointer (some ⟨b, 0, none⟩)] wr (fun e w' => e = .returned (.tuple #[.int .i64 (i : Nat), .nilIface]) ∧ Hid (TS w noC w' b 10 (64 * (i + 1)) (firstN (min (i + 1) 10)) [])) from by
        have h := HT.out
        rw [Nat.min_eq_left (by omega)] at h
        refine (ts_add_first h (by omega) (by omega)).mono ?_
        rintro e w' ⟨rfl, h2, -⟩
        refine ⟨rfl, Lib.hid ?_⟩
        rw [Nat.min_eq_left (by omega), Nat.mul_add]
        exact h2)
      clear HT
      go_wp2_with fail
      refine HA.out.mono ?_
      rintro e w2 ⟨rfl, H2⟩
      clear HA
      go_wp2_with fail
      go_roundg (N - (i + 1))
      case measure => omega
      case rel => exact ⟨i + 1, by omega, rfl, by go_num, H2⟩
    · obtain rfl : N = i := by omega
      have HT2 := HT.out
      rw [Nat.min_eq_left hN2] at HT2
      have HT2 := Lib.hid HT2
      clear HT hlt
      by_cases hin : 0 ≤ a1 ∧ a1 < N
      · have hk : kindAt (firstN N) a1 = 0 := by rw [firstN_kind (by omega), if_pos hin]
        have HL := Lib.hid (ts_live HT2.out a1)
        rw [hk] at HL
        have HK := Lib.hid HT2.out.kp0
        have i1 := hin.1
        have i2 := hin.2
        clear hk hin
        go_wp2_with (go_at_call 12; refine HL.out.mono ?_; rintro e w' ⟨rfl, rfl⟩)
        refine (tbAwake_any _).mono ?_
        rintro e w9 ⟨rfl, hk9⟩
        have H9 := Lib.hid (HK.out.trans' hk9)
        clear hk9
        go_wp2_with fail
        go_ret
        exact ⟨rfl, H9.out.below _ (Nat.le_refl _) (fun _ e => e.elim)⟩
      · have hk : kindAt (firstN N) a1 = 3 := by rw [firstN_kind (by omega), if_neg hin]
        obtain ⟨S, hS⟩ : ∃ S, slotAt a1 = S := ⟨_, rfl⟩
        have HD := Lib.hid (ts_drop_bad HT2.out a1 (by rw [hk]; decide))
        rw [hk, hS] at HD
        have HNK : nameKind (firstN N) [] ⟨#[97]⟩ a1 = 3 := by
          unfold nameKind
          rw [hk, if_neg (by decide), if_pos (by decide)]
        have HX := Lib.hid (And.intro hk (And.intro hS HNK))
        have hrest : ∀ {wd : World}, TS w noC wd b 10 (64 * N) (firstN N) [] → Calls Try.prog 15 #[.pointer (some ⟨b, 0, none⟩), .int .i64 a1] wd (EBad wd (fun v => .tuple #[.int .i64 (-1), v]) [Lk.fault ⟨#[115, 108, 111, 116]⟩ S, Lk.kind 3]) := by
          intro wd h
          have := ts_slot_bad h a1 (by rw [hk]; decide)
          rw [hk, hS] at this
          exact this
        have hreg : ∀ {wd : World}, TS w noC wd b 10 (64 * N) (firstN N) [] → Calls Try.prog 17 #[.pointer (some ⟨b, 0, none⟩), .string ⟨#[97]⟩, .int .i64 a1] wd (EBad wd (fun v => v) [Lk.fault ⟨#[114, 101, 103, 105, 115, 116, 101, 114]⟩ 1, Lk.kind 3]) := by
          intro wd h
          have := ts_reg_bad h ⟨#[97]⟩ (by decide) a1 (by rw [HNK]; decide)
          rw [HNK] at this
          exact this
        have HS := Lib.hid (fun wd => @hrest wd)
        have HR := Lib.hid (fun wd => @hreg wd)
        have HL : Hid (∀ wd, TS w noC wd b 10 (64 * N) (firstN N) [] → Calls Try.prog 12 #[.pointer (some ⟨b, 0, none⟩), .int .i64 a1] wd fun e w' => e = .returned (.bool false) ∧ wd = w') := by
          refine Lib.hid fun wd h => ?_
          have := ts_live h a1
          rw [hk] at this
          exact this
        have hSe : S = if a1 < 0 then 0 else a1 % 64 := by rw [← hS]; rfl
        have hrem : 0 ≤ a1 → a1.tmod 64 = a1 % 64 := fun h => Int.tmod_eq_emod_of_nonneg h
        rcases (by omega : a1 < 0 ∨ 0 ≤ a1) with hp | hp
        all_goals
          first | (rw [if_pos hp] at hSe) | (rw [if_neg (by omega)] at hSe)
          subst hSe
          have hrm := hrem
          clear hk hS HNK hrest hreg hrem HX
          go_wp2_with fail
          refine HD.out.mono ?_
          rintro e w3 ⟨u, rfl, hu, hk3⟩
          obtain ⟨g, rfl⟩ := hu.out.form
          have H3 := Lib.hid (HT2.out.same hk3)
          have HU3 := Lib.hid hu.out
          clear hu hk3 HD
          go_wp2_with fail
          refine (HS.out _ H3.out).mono ?_
          rintro e w4 ⟨u, rfl, hu, hk4⟩
          obtain ⟨g4, rfl⟩ := hu.out.form
          have H4 := Lib.hid (H3.out.same hk4)
          have HU4 := Lib.hid (And.intro (Chain.kp hk4 _ _ HU3.out) hu.out)
          clear hu hk4 HS HU3 H3
          go_wp2_with fail
          refine (HL.out _ H4.out).mono ?_
          rintro e w' ⟨rfl, rfl⟩
          clear HL
          go_wp2_with fail
          refine (err_any _ _ _ _ (by simp) (Chain.kp (fault_alloc _ _ _ (by decide)).2 _ _ HU4.out.1) (fault_alloc _ _ _ (by decide)).1).mono ?_
          rintro e w5 ⟨rfl, hk5⟩
          have hk45 := (fault_alloc (w := w4) _ _ _ (by decide)).2.trans' hk5
          have H5 := Lib.hid (H4.out.same hk45)
          have HU5 := Lib.hid (Chain.kp hk45 _ _ HU4.out.2)
          clear hk5 hk45 H4 HU4
          go_wp2_with fail
          refine (err_any _ _ _ _ (by simp) (Chain.kp (fault_alloc _ _ _ (by decide)).2 _ _ HU5.out) (fault_alloc _ _ _ (by decide)).1).mono ?_
          rintro e w6 ⟨rfl, hk6⟩
          have H6 := Lib.hid (H5.out.same ((fault_alloc (w := w5) _ _ _ (by decide)).2.trans' hk6))
          clear hk6 H5 HU5
          go_wp2_with fail
          refine (HR.out _ H6.out).mono ?_
          rintro e w7 ⟨u, rfl, hu, hk7⟩
          obtain ⟨g7, rfl⟩ := hu.out.form
          have H7 := Lib.hid (H6.out.same hk7)
          have HU7 := Lib.hid hu.out
          clear hu hk7 HR H6
          go_wp2_with fail
          refine (err_any _ _ _ _ (by simp) (Chain.kp (fault_alloc _ _ _ (by decide)).2 _ _ HU7.out) (fault_alloc _ _ _ (by decide)).1).mono ?_
          rintro e w8 ⟨rfl, hk8⟩
          have H8 := Lib.hid (H7.out.same ((fault_alloc (w := w7) _ _ _ (by decide)).2.trans' hk8))
          have HN8 := Lib.hid (ts_names H8.out)
          clear hk8 H7 HU7
          go_wp2_with fail
          refine HN8.out.mono ?_
          rintro e w9 ⟨vn, rfl, hsw, -, hk9⟩
          obtain ⟨pn, cn, rfl⟩ := hsw.form
          have H9 := Lib.hid (H8.out.same hk9).kp0
          rw [show (txts []).length = 0 from rfl]
          clear hsw hk9 HN8 H8
          go_wp2_with fail
          refine (tbAwake_any _).mono ?_
          rintro e w10 ⟨rfl, hk10⟩
          have H10 := Lib.hid (H9.out.trans' hk10)
          clear hk10
          go_wp2_with fail
          go_ret
          exact ⟨rfl, H10.out.below _ (Nat.le_refl _) (fun _ e => e.elim)⟩

set_option maxRecDepth 100000 in
theorem lifted (os : Os) (started : os.Started) (H : Type) (enc : TypeId × Value → H) :
    ReturnsInHanded {} Try.checked os 3 .any (Rows.tableForeignSpec.pre6 enc Try.prog Try.f3 Rows.tableForeignRow.domain false) (Rows.tableForeignSpec.post enc Try.prog Try.f3 false true false false) := by
  refine returnsInHanded_of_change (C := Try.checked) own started (by kernel_rfl) Try.func3
    (ChangeSpec.witness6 (enc := enc) (C := Try.checked) false ⟨#[], #[.int .i64 0, .int .i64 0], []⟩ 8 (by kernel_rfl) (by kernel_rfl) (by kernel_rfl) (by kernel_rfl)) ?_
  intro W base args ds gs before hval0 hW hcnd _
  have hval : ∀ (j : Nat) t v, Try.f3.params[j]? = some t → args[j]? = some v → Value.okWide Try.prog W .any base t v := hval0
  have hW' := hW
  obtain ⟨p, q, hA0, hV, rfl, hfz, hnd⟩ := hW
  have hA : DataW.TrodAll enc Try.prog W 0 (fun _ => true) true Try.f3.params.toList args.toList ds p := hA0
  rw [Try.params3] at hA hval
  obtain ⟨v0, vs0, d0, ds0, p0, q0, hargs, rfl, rfl, h0, r0⟩ := trodAll_cons hA
  obtain ⟨v1, vs1, d1, ds1, p1, q1, rfl, rfl, rfl, h1, r1⟩ := trodAll_cons r0
  obtain ⟨rfl, rfl, rfl⟩ := trodAll_nil r1
  obtain rfl : args = #[v0, v1] := by cases args; simp_all
  obtain ⟨rfl, rfl⟩ := trodVars_none hV
  obtain ⟨a0, rfl, rfl, rfl, w0⟩ := open_int Try.underlying3 (hval 0 3 v0 rfl rfl) h0
  obtain ⟨a1, rfl, rfl, rfl, w1⟩ := open_int Try.underlying2 (hval 1 2 v1 rfl rfl) h1
  clear hA0 hval0
  simp only [List.append_nil] at hW'
  refine (walk a0 a1 W w0 w1).mono fun e W' ⟨he, bel⟩ => ?_
  subst he
  exact ⟨_, rfl, _, _, _, [], _, [], hW', trodAll_mk1 (shut_bool Try.underlying4 _), (trodAll_cons_mk (shut_int Try.underlying3 w0) (trodAll_cons_mk (shut_int Try.underlying2 w1) trodAll_mk0)), rfl, bel.frame _, fun h => by cases h⟩

theorem over : Rows.tableForeignRow.holds Try.pinned (OpenSpec.ofChange Rows.tableForeignSpec) :=
  OpenClaim.holds_of_wide 3 Try.f3 rfl rfl rfl rfl rfl rfl rfl ⟨rfl, rfl, rfl, rfl, rfl⟩ rfl rfl rfl rfl rfl (by kernel_rfl) Try.func3 (by kernel_rfl)
    (of_decide_eq_true (by kernel_rfl)) (by unfold Func.isWrapper; first | (rw [if_pos (by decide +kernel)]; kernel_rfl) | (rw [if_neg (by decide +kernel)]; exact ⟨rfl, rfl⟩))
    (fun os started H enc _ => lifted os started H enc)

theorem proved : Rows.TableForeignSaid := over
#print axioms proved
end Go.Proofs.Ytdcmdidikengbaa.tableForeign
