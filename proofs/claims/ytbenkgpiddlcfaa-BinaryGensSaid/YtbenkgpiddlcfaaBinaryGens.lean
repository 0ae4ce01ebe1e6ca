/- A slot's handles go on by generations: each time it is given anew the handle is one generation more, and all old ones are stale: for every number of times. -/
import Derived.Test.YtbenkgpiddlcfaaRows
import Derived.Test.YtbenkgpiddlcfaaLoose
import Derived.Test.YtbenkgpiddlcfaaPlace
import Derived.Deep.LoopGhost
import Derived.LoopN
import Derived.WalkKit
import Derived.ProofKit
import Derived.OpenShut
import Derived.ShutString
import Derived.ChangeOld
import Derived.Below
import Derived.Deep.Strs
namespace Go.Proofs.Ytbenkgpiddlcfaa.binaryGens
open Go.ChangeShapes Go.WideShapes Go.ChangeAt Go.RowKit
open Go.ChangeMaps (open_string shut_string)
set_option linter.unusedVariables false

theorem own : ownKnob Try.prog.godebug = none := by kernel_rfl
theorem laidOut : laidOutB Try.prog = true := by kernel_rfl

/-- the heap behind i rounds; and within round i, while the binary is held -/
def gA (i : Nat) : Bn := ⟨1, 100, 0, if i = 0 then [] else [⟨[], 0, i⟩], if i = 0 then [] else [0]⟩
def gB (i : Nat) : Bn := ⟨1, 100, 1, [⟨[UInt8.ofNat i], 1, i⟩], []⟩
theorem gA_free (i : Nat) : (gA i).slots.length ≤ 4096 := by unfold gA; split <;> simp

theorem gens_put {F G : Nat → Prop} {w : World} {b i : Nat} {ss fs : Value} {ps : List (Value × Value × Value)} (h : BRep F w b (gA i) ss fs ps) (hI : BInv 100 (gA i)) {v : Value} (hv : BytesAt G w [UInt8.ofNat i] v) (hG : ∀ q, G q → ¬ F q) :
    Calls Try.prog 15 #[.pointer (some ⟨b, 0, none⟩), v] w fun e w' => e = .returned (.tuple #[.int .i64 ((i : Int) * 4096), .nilIface]) ∧ BGo F w b (gB i) w' := by
  by_cases h0 : i = 0
  · subst h0
    refine (put_first h hI (by omega) hv hG rfl (by decide) (by decide)).mono ?_
    rintro e w' ⟨rfl, h2⟩
    exact ⟨rfl, h2⟩
  · have e : gA i = ⟨1, 100, 0, [⟨[], 0, i⟩], [0]⟩ := by unfold gA; rw [if_neg h0, if_neg h0]
    rw [e] at h hI
    refine (put_again h hI (by omega) hv hG (rest := []) (i := 0) (s := ⟨[], 0, i⟩) rfl rfl (by simp)).mono ?_
    rintro e w' ⟨rfl, h2⟩
    refine ⟨?_, h2⟩
    rw [show ((0 : Nat) : Int) + 4096 * (i : Nat) = (i : Int) * 4096 by omega]
theorem gens_inv {i : Nat} (hi : i ≤ 99) : BInv 100 (gB i) :=
  ⟨⟨by simp [gB], by simp [gB]⟩, by simp [gB], by simp [gB], rfl, by simp [gB], by simp [gB], fun j => by
    unfold gB
    refine ⟨fun h => by simp at h, fun ⟨s, h1, h2⟩ => ?_⟩
    cases j with
    | zero => simp at h1; subst h1; simp at h2
    | succ j => simp at h1, fun j s h1 h2 => by
    unfold gB at h1
    cases j with
    | zero => simp at h1; subst h1; simp at h2
    | succ j => simp at h1, fun j s h1 => by
    unfold gB at h1
    cases j with
    | zero => simp at h1; subst h1; simp; omega
    | succ j => simp at h1⟩

set_option maxHeartbeats 4000000 in
set_option maxRecDepth 100000 in
theorem walk (a0 : Int) (w : World) (w1 : (Lit.int .i64 a0).wf = true) :
    Calls Try.prog 7 #[.int .i64 a0] w fun e w' => e = .returned (.bool true) ∧ Below w.heap.size w w' := by
  obtain ⟨b1, b2⟩ := bounds_i64 w1
  clear w1
  go_enter Try.func7, Try.ntmps7
  go_wp2_with fail
  refine (new_ok 1 100 (by omega) (by omega) (by omega) w).mono ?_
  rintro e wa ⟨rfl, hk1, hA1⟩
  have hS1 : Solo w wa w.heap.size 100 (gA 0) (fun q => q = w.heap.size) := ⟨hA1, inv_new 1 100 (by omega) (by omega) (by omega) 100, fun q e => by omega, hk1⟩
  have H1 := Lib.hid hS1
  clear hk1 hA1 hS1
  go_wp2_with fail
  obtain ⟨r, hr, hr2⟩ : ∃ r : Nat, a0 % 60 = r ∧ r < 60 := ⟨(a0 % 60).toNat, by omega, by omega⟩
  have Hr := Lib.hid hr
  clear hr
  refine (place_any _ a0 60 b1 b2 (by omega) (by omega)).mono ?_
  rintro e w' ⟨rfl, rfl⟩
  rw [Hr.out]
  go_wp2_with fail
  go_loopg [6] (r + 1) (fun gk i wr => ∃ (k : Nat) (F : Nat → Prop), k ≤ r + 1 ∧ gk = r + 1 - k ∧ i = Value.int .i64 k ∧ Solo w wr w.heap.size 100 (gA k) F)
  case atStart => exact ⟨0, _, by omega, rfl, rfl, H1.out⟩
  case round =>
    clear H1
    obtain ⟨k, F, hk, rfl, rfl, hS⟩ := hrel
    by_cases hlt : k < r + 1
    · have hli : (k : Int) < 1 + r := by omega
      have hbyte : (UInt8.ofNat k).toNat = k := by rw [UInt8.toNat_ofNat']; omega
      have hw : IntKind.u8.wrap (k : Int) = k := by simp [IntKind.wrap, IntKind.signed, IntKind.bits]; omega
      have Hb := Lib.hid (And.intro hbyte (And.intro (hS.same ((Kp.refl _ wr).alloc (.cells #[.int .u8 k] 5))) (fun q (e : q = wr.heap.size) (e' : F q) => (by have := hS.at'.lt _ e'; omega : False))))
      have hlit : BytesAt (fun q => q = wr.heap.size) (wr.alloc (.cells #[.int .u8 k] 5)) [UInt8.ofNat k] (.slice (some ⟨wr.heap.size, 0, none⟩) 1 1) :=
        bytes_lit (l := [UInt8.ofNat k]) (by have := heap_alloc_new wr (.cells #[.int .u8 k] 5); simp only [bcells, List.map_cons, List.map_nil, hbyte]; exact this) (by simp) (by simp)
      have Hlit := Lib.hid hlit
      clear hbyte hS hlit
      go_wp2_with fail
      obtain ⟨ss, fs, ps, hB⟩ := Hb.out.2.1.at'
      refine (gens_put hB Hb.out.2.1.inv Hlit.out Hb.out.2.2).mono ?_
      rintro e wb ⟨rfl, hgo⟩
      obtain ⟨F2, hS2⟩ := Hb.out.2.1.step hgo (gens_inv (i := k) (by omega))
      have H2 := Lib.hid hS2
      have Hbyte := Lib.hid Hb.out.1
      clear hB hgo hS2 Hlit Hb hw
      go_wp2_with fail
      go_loopg [9] k (fun gk i wr2 => ∃ j : Nat, j ≤ k ∧ gk = k - j ∧ i = Value.int .i64 j ∧ Solo w wr2 w.heap.size 100 (gB k) F2)
      case atStart => exact ⟨0, by omega, rfl, rfl, H2.out⟩
      case round =>
        clear H2
        obtain ⟨j, hj, rfl, rfl, hS⟩ := hrel
        by_cases hjk : j < k
        · have hji : (j : Int) < k := by omega
          have H3 := Lib.hid hS
          clear hS
          go_wp2_with fail
          obtain ⟨ss, fs, ps, hB⟩ := H3.out.at'
          refine (keep_bad hB (by simp [gB]) ((j : Int) * 4096) 4 (by omega) (by omega) (.inr ⟨rfl, by omega, 0, ⟨[UInt8.ofNat k], 1, k⟩, by omega, rfl, .inl (by simp only; omega)⟩)).mono ?_
          rintro e wc ⟨v, rfl, hch, hk4⟩
          obtain ⟨gv, rfl⟩ := hch.out.form
          have hka : Kp (fun _ => False) wc (wc.alloc (.cells #[.string keepS, .int .i64 ((j : Int) * 4096), .iface 61 (.int .i64 4)] 63)) := (Kp.refl _ wc).alloc _
          have H4 := Lib.hid (And.intro ((H3.out.same hk4).same hka) (And.intro (Chain.kp hka _ _ hch.out) ((ChainB.cons (B := 0) (l := [Lk.kind 4]) keepS ((j : Int) * 4096) (ChainB.root _ _ (by decide)) (Nat.zero_le _) (heap_alloc_new wc _)).out)))
          clear hB hch hk4 H3 hka
          go_wp2_with fail
          refine (err_any [Lk.fault keepS ((j : Int) * 4096), Lk.kind 4] _ _ _ (by simp) H4.out.2.1 H4.out.2.2).mono ?_
          rintro e we ⟨rfl, hk5⟩
          have H5 := Lib.hid (H4.out.1.same hk5)
          clear hk5 H4
          go_wp2_with fail
          go_roundg (k - (j + 1))
          case measure => omega
          case rel => exact ⟨j + 1, by omega, rfl, by go_num, H5.out⟩
        · obtain rfl : k = j := by omega
          have H3 := Lib.hid hS
          have hw : IntKind.u8.wrap (k : Int) = k := by simp [IntKind.wrap, IntKind.signed, IntKind.bits]; omega
          clear hS
          go_wp2_with fail
          obtain ⟨ss, fs, ps, hB⟩ := H3.out.at'
          have hf : FOk (gB k) ((k : Int) * 4096) 0 ⟨[UInt8.ofNat k], 1, k⟩ := ⟨by omega, by omega, rfl, by simp only; omega, by simp⟩
          have Hf := Lib.hid hf
          refine (bytes_ok hB (by simp [gB]) hf (by omega)).mono ?_
          rintro e wd ⟨v2, rfl, hv2, hk4⟩
          obtain ⟨p2, c2, rfl⟩ := hv2.form' (m := 1) rfl
          obtain ⟨gx, off, hc⟩ : ∃ gx off, p2 = some ⟨gx, off, none⟩ ∧ wd.cell? ⟨gx, off, none⟩ = some (.int .u8 k) := by
            obtain ⟨po, cap, e, _, _, h4⟩ := hv2
            injection e with e
            subst e
            obtain ⟨gx, off, rfl, _, hc⟩ := h4 0 _ rfl
            rw [Hbyte.out] at hc
            exact ⟨gx, off, rfl, hc⟩
          obtain ⟨rfl, hc⟩ := hc
          have H4 := Lib.hid (H3.out.same hk4)
          clear hB hv2 hk4 H3 hf
          go_wp2_with fail
          obtain ⟨ss, fs, ps, hB⟩ := H4.out.at'
          refine (drop_last hB (by simp [gB]) (by simp [gB]) Hf.out (by omega) rfl (by simp only; omega) (by simp [gB]) (by simp [gB])).mono ?_
          rintro e we ⟨rfl, hgo⟩
          obtain ⟨F5, hS5⟩ := H4.out.step (M := 100) hgo (H4.out.inv.drop (i := 0) (s := ⟨[UInt8.ofNat k], 1, k⟩) rfl (by simp) (by simp only; omega) (by omega))
          have hS6 : Solo w we w.heap.size 100 (gA (k + 1)) F5 := by
            have e : gA (k + 1) = ⟨1, 100, 0, [⟨[], 0, k + 1⟩], [0]⟩ := by unfold gA; simp
            rw [e]
            exact hS5
          have H6 := Lib.hid hS6
          clear hB hgo hS5 hS6 H4 hw
          go_wp2_with fail
          go_roundg (r + 1 - (k + 1))
          case measure => omega
          case rel => exact ⟨k + 1, _, by omega, rfl, by go_num, H6.out⟩
    · obtain rfl : k = r + 1 := by omega
      have H2 := Lib.hid hS
      clear hS
      obtain ⟨ss, fs, ps, hB⟩ := H2.out.at'
      have hu : ((gA (r + 1)).used : Int) = 0 := rfl
      have Hu := Lib.hid hu
      clear hu
      go_wp2_with (first | (go_at_call 27; refine (used_any hB).mono ?_; rintro e wf ⟨rfl, rfl⟩; rw [Hu.out]) | (go_at_call 13; refine (awake_any _).mono ?_; rintro e wg ⟨rfl, hk7⟩))
      go_ret
      exact ⟨rfl, (H2.out.same hk7).below⟩

set_option maxRecDepth 100000 in
theorem lifted (os : Os) (started : os.Started) (H : Type) (enc : TypeId × Value → H) :
    ReturnsInHanded {} Try.checked os 7 .any (Rows.binaryGensSpec.pre6 enc Try.prog Try.f7 Rows.binaryGensRow.domain false) (Rows.binaryGensSpec.post enc Try.prog Try.f7 false true false false) := by
  refine returnsInHanded_of_change (C := Try.checked) own started (by kernel_rfl) Try.func7
    (ChangeSpec.witness6 (enc := enc) (C := Try.checked) false ⟨#[], #[.int .i64 0], []⟩ 8 (by kernel_rfl) (by kernel_rfl) (by kernel_rfl) (by kernel_rfl)) ?_
  intro W base args ds gs before hval0 hW hcnd _
  have hval : ∀ (j : Nat) t v, Try.f7.params[j]? = some t → args[j]? = some v → Value.okWide Try.prog W .any base t v := hval0
  have hW' := hW
  obtain ⟨p, q, hA0, hV, rfl, hfz, hnd⟩ := hW
  have hA : DataW.TrodAll enc Try.prog W 0 (fun _ => true) true Try.f7.params.toList args.toList ds p := hA0
  rw [Try.params7] at hA hval
  obtain ⟨v0, vs0, d0, ds0, p0, q0, hargs, rfl, rfl, h0, r0⟩ := trodAll_cons hA
  obtain ⟨rfl, rfl, rfl⟩ := trodAll_nil r0
  obtain rfl : args = #[v0] := by cases args; simp_all
  obtain ⟨rfl, rfl⟩ := trodVars_none hV
  obtain ⟨a0, rfl, rfl, rfl, w0⟩ := open_int Try.underlying3 (hval 0 3 v0 rfl rfl) h0
  clear hA0 hval0
  simp only [List.append_nil] at hW'
  refine (walk a0 W w0).mono fun e W' ⟨he, bel⟩ => ?_
  subst he
  exact ⟨_, rfl, _, _, _, [], _, [], hW', trodAll_mk1 (shut_bool Try.underlying4 _), (trodAll_cons_mk (shut_int Try.underlying3 w0) trodAll_mk0), rfl, bel.frame _, fun h => by cases h⟩

theorem over : Rows.binaryGensRow.holds Try.pinned (OpenSpec.ofChange Rows.binaryGensSpec) :=
  OpenClaim.holds_of_wide 7 Try.f7 rfl rfl rfl rfl rfl rfl rfl ⟨rfl, rfl, rfl, rfl, rfl⟩ rfl rfl rfl rfl rfl (by kernel_rfl) Try.func7 (by kernel_rfl)
    (of_decide_eq_true (by kernel_rfl)) (by unfold Func.isWrapper; first | (rw [if_pos (by decide +kernel)]; kernel_rfl) | (rw [if_neg (by decide +kernel)]; exact ⟨rfl, rfl⟩))
    (fun os started H enc _ => lifted os started H enc)

theorem proved : Rows.BinaryGensSaid := over
#print axioms proved
end Go.Proofs.Ytbenkgpiddlcfaa.binaryGens
