/- WheelTies: timers of one time expire in the order in which they were started, however long ahead each of them was; at every slice of ints, no condition. -/
import Derived.Test.YtmekhijmghddiaaRows
import Derived.Test.YtmekhijmghddiaaWhUse
import Derived.Test.YtmekhijmghddiaaIn
import Derived.WalkKit
import Derived.ProofKit
import Derived.OpenShut
import Derived.ShutString
import Derived.ChangeOld
import Derived.Below
import Derived.Deep.Strs
namespace Go.Proofs.Ytmekhijmghddiaa.wheelTies
open Go.ChangeShapes Go.WideShapes Go.ChangeAt Go.RowKit
open Go.ChangeMaps (open_string shut_string)
set_option linter.unusedVariables false

theorem own : ownKnob Try.prog.godebug = none := by kernel_rfl
theorem laidOut : laidOutB Try.prog = true := by kernel_rfl

/-- timers of one time, in the order of their ids -/
def TiesTs (ts : List Tm) : Prop := ∀ (k : Nat) (t : Tm), ts[k]? = some t → t.id = k ∧ t.due = 10000
theorem TiesTs.snoc {ts : List Tm} (h : TiesTs ts) (t : Tm) (h1 : t.id = ts.length) (h2 : t.due = 10000) : TiesTs (ts ++ [t]) := by
  intro k x hk
  by_cases e : k < ts.length
  · rw [List.getElem?_append_left e] at hk
    exact h k x hk
  · rw [List.getElem?_append_right (by omega)] at hk
    rcases hkk : k - ts.length with _ | j
    · rw [hkk] at hk
      simp at hk
      subst hk
      exact ⟨by omega, h2⟩
    · rw [hkk] at hk
      simp at hk
theorem TiesTs.due {ts : List Tm} (h : TiesTs ts) : ∀ t ∈ ts, t.due = 10000 := by
  intro t ht
  obtain ⟨k, hk, e⟩ := List.mem_iff_getElem.1 ht
  exact (h k t (by rw [List.getElem?_eq_getElem hk, e])).2
theorem TiesTs.sorted {ts : List Tm} (h : TiesTs ts) : ts.Pairwise TmLt := by
  rw [List.pairwise_iff_getElem]
  intro i j hi hj hij
  have h1 := h i ts[i] (List.getElem?_eq_getElem hi)
  have h2 := h j ts[j] (List.getElem?_eq_getElem hj)
  exact .inr ⟨by rw [h1.2, h2.2], by rw [h1.1, h2.1]; exact hij⟩
theorem TiesTs.get {ts : List Tm} (h : TiesTs ts) {k : Nat} (hk : k < ts.length) : (idsOf ts)[k]? = some (k : Int) := by
  unfold idsOf
  rw [List.getElem?_map, List.getElem?_eq_getElem hk, Option.map_some, (h k ts[k] (List.getElem?_eq_getElem hk)).1]

set_option maxHeartbeats 8000000 in
set_option maxRecDepth 100000 in
theorem walk (a0 : Option Addr) (len0 cap0 : Nat) (z0 : Nat → Int) (w : World) (h0 : InRow w a0 len0 z0 ∧ len0 ≤ cap0 ∧ cap0 ≤ 9223372036854775807) :
    Calls Try.prog 8 #[.slice a0 len0 cap0] w fun e w' => e = .returned (.bool true) ∧ Below w.heap.size w w' := by
  have hc1 := h0.2.1
  have hc2 := h0.2.2
  have hl0 := h0.1.1
  have HI := Lib.hid h0.1
  have HNW := Lib.hid (show Calls Try.prog 9 #[.int .i64 200] w _ from n_new w 200 (by omega) (by omega))
  clear h0
  by_cases hgt : 100 < len0
  · have hgt2 : (100 : Int) < len0 := by omega
    have hc3 : (100 : Int) ≤ cap0 := by omega
    go_enter Try.func8, Try.ntmps8
    go_wp2_with fail
    refine HNW.out.mono ?_
    rintro e w1 ⟨b, rfl, h1⟩
    have H1 := Lib.hid h1
    clear h1 HNW
    go_wp2_with fail
    go_loopg [5, 6, 7, 8, 9] 100 (fun gk s5 s6 s7 s8 s9 wr => ∃ (i nw : Nat) (ts : List Tm), i ≤ 100 ∧ gk = 100 - i ∧ s6 = .int .i64 (i : Nat) ∧ s5 = .int .i64 (nw : Nat) ∧ nw ≤ 49 * i ∧ ts.length = i ∧ TiesTs ts ∧ WhN w wr b 200 nw i ts)
    case atStart => exact ⟨0, 0, [], by omega, rfl, rfl, rfl, by omega, rfl, fun k t hk => by simp at hk, H1.out⟩
    case round =>
      obtain ⟨i, nw, ts, hi, rfl, rfl, rfl, hnw, htl, hties, hB⟩ := hrel
      clear H1
      have hi100 : i ≤ 100 := by omega
      by_cases hlt : i < 100
      · have hli : (i : Int) < 100 := by omega
        obtain ⟨b0, off0, rfl, c0, c1, c2⟩ := HI.out.at' (by obtain ⟨G, _, _, h⟩ := hB; exact h) i (by omega)
        obtain ⟨x, hx⟩ : ∃ x, z0 i = x := ⟨_, rfl⟩
        rw [hx] at c0 c1 c2
        obtain ⟨K, hK, hK2⟩ : ∃ K : Nat, x % 50 = K ∧ K < 50 := ⟨(x % 50).toNat, by omega, by omega⟩
        have HK := Lib.hid hK
        have HT := Lib.hid (n_tick_none hB K (by omega) (by omega) (by omega) (fun t ht => by rw [hties.due t ht]; omega))
        have HTT := Lib.hid (And.intro hties htl)
        obtain ⟨M, hM⟩ : ∃ M, nw + K = M := ⟨_, rfl⟩
        rw [hM] at HT
        have hM2 : (nw : Int) + (K : Int) = (M : Int) := by omega
        have hM4 : M ≤ 4900 := by omega
        have hM5 : (M : Int) ≤ 4900 := by omega
        have hM6 : M ≤ 49 * (i + 1) := by omega
        have HM2 := Lib.hid hM2
        obtain ⟨D, hD⟩ : ∃ D, 10000 - M = D := ⟨_, rfl⟩
        have hD2 : (10000 : Int) - (M : Int) = (D : Int) := by omega
        have HD2 := Lib.hid hD2
        have HD := Lib.hid hD
        have hnb : (nw : Int) ≤ 4900 := by omega
        have hkb : (K : Int) < 50 := by omega
        clear hK hx hB hties htl hM hM2 hD hD2
        go_wp2_with fail
        refine (place_any _ x 50 c1 c2 (by omega) (by omega)).mono ?_
        rintro e w' ⟨rfl, rfl⟩
        rw [HK.out]
        clear c0 c1 c2
        go_wp2_with fail
        refine HT.out.mono ?_
        rintro e w3 ⟨po, cap, rfl, h3⟩
        have HS := Lib.hid (n_start h3 D 0 (by have := HD.out; omega) (by omega) (by omega) (by have := HTT.out.2; omega) (by omega))
        clear h3 HT
        go_wp2_with fail
        rw [HM2.out, HD2.out]
        refine HS.out.mono ?_
        rintro e w4 ⟨rfl, g, h4⟩
        have hMD : M + D = 10000 := by have := HD.out; omega
        rw [hMD] at h4
        have H4 := Lib.hid h4
        clear h4 HS hMD
        go_wp2_with fail
        go_roundg (100 - (i + 1))
        case measure => omega
        case rel => exact ⟨i + 1, M, _, by omega, rfl, by go_num, rfl, hM6, by rw [List.length_append, HTT.out.2]; rfl, HTT.out.1.snoc _ HTT.out.2.symm rfl, H4.out⟩
      · obtain rfl : 100 = i := by omega
        have HT := Lib.hid (show Calls Try.prog 22 #[.pointer (some ⟨b, 0, none⟩), .int .i64 10000] _ _ from n_tick_all hB 10000 (by omega) (by omega) (by omega) (fun t ht => by rw [hties.due t ht]; omega) hties.sorted)
        have HTT := Lib.hid (And.intro hties htl)
        clear hB hties htl hlt HI
        go_wp2_with fail
        refine HT.out.mono ?_
        rintro e w3 ⟨v, rfl, hv, h3⟩
        obtain ⟨po, cap, rfl, hcap, hcap2, hcell⟩ := hv
        rw [idsOf_len, HTT.out.2] at hcap ⊢
        have hcell2 : Hid (∀ k, k < 100 → ∃ g off, po = some ⟨g, off, none⟩ ∧ w3.cell? ⟨g, off + k, none⟩ = some (.int .i64 (k : Nat))) := Lib.hid (fun k hk => hcell k k (HTT.out.1.get (by rw [HTT.out.2]; exact hk)))
        have H3 := Lib.hid h3
        have hcp : cap ≤ 9223372036854775807 := by unfold maxLen at hcap2; omega
        clear h3 hcell HT hcap2
        go_wp2_with fail
        go_loopg [11] 100 (fun gk s11 wr => ∃ k : Nat, k ≤ 100 ∧ gk = 100 - k ∧ s11 = .int .i64 (k : Nat) ∧ w3 = wr)
        case atStart => exact ⟨0, by omega, rfl, rfl, rfl⟩
        case round =>
          obtain ⟨k, hk, rfl, rfl, rfl⟩ := hrel
          by_cases hkl : k < 100
          · obtain ⟨g, off, rfl, hc⟩ := hcell2.out k hkl
            have hki : (k : Int) < 100 := by omega
            have hcw : IntKind.i64.wrap (k : Int) = k := IntWalk.i64_in _ (by omega)
            go_wp2_with fail
            go_roundg (100 - (k + 1))
            case measure => omega
            case rel => exact ⟨k + 1, by omega, rfl, by go_num, rfl⟩
          · obtain rfl : 100 = k := by omega
            clear hkl
            go_wp2_with fail
            refine (whAwake_any _).mono ?_
            rintro e w7 ⟨rfl, hk7⟩
            have H7 := Lib.hid (H3.out.same hk7).below
            clear hk7
            go_wp2_with fail
            go_ret
            exact ⟨rfl, H7.out⟩
  · have hgt2 : ¬ (100 : Int) < len0 := by omega
    go_enter Try.func8, Try.ntmps8
    go_wp2_with fail
    refine HNW.out.mono ?_
    rintro e w1 ⟨b, rfl, h1⟩
    have H1 := Lib.hid h1
    clear h1 HNW
    go_wp2_with fail
    go_loopg [5, 6, 7, 8, 9] len0 (fun gk s5 s6 s7 s8 s9 wr => ∃ (i nw : Nat) (ts : List Tm), i ≤ len0 ∧ gk = len0 - i ∧ s6 = .int .i64 (i : Nat) ∧ s5 = .int .i64 (nw : Nat) ∧ nw ≤ 49 * i ∧ ts.length = i ∧ TiesTs ts ∧ WhN w wr b 200 nw i ts)
    case atStart => exact ⟨0, 0, [], by omega, rfl, rfl, rfl, by omega, rfl, fun k t hk => by simp at hk, H1.out⟩
    case round =>
      obtain ⟨i, nw, ts, hi, rfl, rfl, rfl, hnw, htl, hties, hB⟩ := hrel
      clear H1
      have hi100 : i ≤ 100 := by omega
      by_cases hlt : i < len0
      · have hli : (i : Int) < len0 := by omega
        obtain ⟨b0, off0, rfl, c0, c1, c2⟩ := HI.out.at' (by obtain ⟨G, _, _, h⟩ := hB; exact h) i (by omega)
        obtain ⟨x, hx⟩ : ∃ x, z0 i = x := ⟨_, rfl⟩
        rw [hx] at c0 c1 c2
        obtain ⟨K, hK, hK2⟩ : ∃ K : Nat, x % 50 = K ∧ K < 50 := ⟨(x % 50).toNat, by omega, by omega⟩
        have HK := Lib.hid hK
        have HT := Lib.hid (n_tick_none hB K (by omega) (by omega) (by omega) (fun t ht => by rw [hties.due t ht]; omega))
        have HTT := Lib.hid (And.intro hties htl)
        obtain ⟨M, hM⟩ : ∃ M, nw + K = M := ⟨_, rfl⟩
        rw [hM] at HT
        have hM2 : (nw : Int) + (K : Int) = (M : Int) := by omega
        have hM4 : M ≤ 4900 := by omega
        have hM5 : (M : Int) ≤ 4900 := by omega
        have hM6 : M ≤ 49 * (i + 1) := by omega
        have HM2 := Lib.hid hM2
        obtain ⟨D, hD⟩ : ∃ D, 10000 - M = D := ⟨_, rfl⟩
        have hD2 : (10000 : Int) - (M : Int) = (D : Int) := by omega
        have HD2 := Lib.hid hD2
        have HD := Lib.hid hD
        have hnb : (nw : Int) ≤ 4900 := by omega
        have hkb : (K : Int) < 50 := by omega
        clear hK hx hB hties htl hM hM2 hD hD2
        go_wp2_with fail
        refine (place_any _ x 50 c1 c2 (by omega) (by omega)).mono ?_
        rintro e w' ⟨rfl, rfl⟩
        rw [HK.out]
        clear c0 c1 c2
        go_wp2_with fail
        refine HT.out.mono ?_
        rintro e w3 ⟨po, cap, rfl, h3⟩
        have HS := Lib.hid (n_start h3 D 0 (by have := HD.out; omega) (by omega) (by omega) (by have := HTT.out.2; omega) (by omega))
        clear h3 HT
        go_wp2_with fail
        rw [HM2.out, HD2.out]
        refine HS.out.mono ?_
        rintro e w4 ⟨rfl, g, h4⟩
        have hMD : M + D = 10000 := by have := HD.out; omega
        rw [hMD] at h4
        have H4 := Lib.hid h4
        clear h4 HS hMD
        go_wp2_with fail
        go_roundg (len0 - (i + 1))
        case measure => omega
        case rel => exact ⟨i + 1, M, _, by omega, rfl, by go_num, rfl, hM6, by rw [List.length_append, HTT.out.2]; rfl, HTT.out.1.snoc _ HTT.out.2.symm rfl, H4.out⟩
      · obtain rfl : len0 = i := by omega
        have HT := Lib.hid (show Calls Try.prog 22 #[.pointer (some ⟨b, 0, none⟩), .int .i64 10000] _ _ from n_tick_all hB 10000 (by omega) (by omega) (by omega) (fun t ht => by rw [hties.due t ht]; omega) hties.sorted)
        have HTT := Lib.hid (And.intro hties htl)
        clear hB hties htl hlt HI
        go_wp2_with fail
        refine HT.out.mono ?_
        rintro e w3 ⟨v, rfl, hv, h3⟩
        obtain ⟨po, cap, rfl, hcap, hcap2, hcell⟩ := hv
        rw [idsOf_len, HTT.out.2] at hcap ⊢
        have hcell2 : Hid (∀ k, k < len0 → ∃ g off, po = some ⟨g, off, none⟩ ∧ w3.cell? ⟨g, off + k, none⟩ = some (.int .i64 (k : Nat))) := Lib.hid (fun k hk => hcell k k (HTT.out.1.get (by rw [HTT.out.2]; exact hk)))
        have H3 := Lib.hid h3
        have hcp : cap ≤ 9223372036854775807 := by unfold maxLen at hcap2; omega
        clear h3 hcell HT hcap2
        go_wp2_with fail
        go_loopg [11] len0 (fun gk s11 wr => ∃ k : Nat, k ≤ len0 ∧ gk = len0 - k ∧ s11 = .int .i64 (k : Nat) ∧ w3 = wr)
        case atStart => exact ⟨0, by omega, rfl, rfl, rfl⟩
        case round =>
          obtain ⟨k, hk, rfl, rfl, rfl⟩ := hrel
          by_cases hkl : k < len0
          · obtain ⟨g, off, rfl, hc⟩ := hcell2.out k hkl
            have hki : (k : Int) < len0 := by omega
            have hcw : IntKind.i64.wrap (k : Int) = k := IntWalk.i64_in _ (by omega)
            go_wp2_with fail
            go_roundg (len0 - (k + 1))
            case measure => omega
            case rel => exact ⟨k + 1, by omega, rfl, by go_num, rfl⟩
          · obtain rfl : len0 = k := by omega
            clear hkl
            go_wp2_with fail
            refine (whAwake_any _).mono ?_
            rintro e w7 ⟨rfl, hk7⟩
            have H7 := Lib.hid (H3.out.same hk7).below
            clear hk7
            go_wp2_with fail
            go_ret
            exact ⟨rfl, H7.out⟩

set_option maxRecDepth 100000 in
theorem lifted (os : Os) (started : os.Started) (H : Type) (enc : TypeId × Value → H) :
    ReturnsInHanded {} Try.checked os 8 .any (Rows.wheelTiesSpec.pre6 enc Try.prog Try.f8 Rows.wheelTiesRow.domain false) (Rows.wheelTiesSpec.post enc Try.prog Try.f8 false true false false) := by
  refine returnsInHanded_of_change (C := Try.checked) own started (by kernel_rfl) Try.func8
    (ChangeSpec.witness6 (enc := enc) (C := Try.checked) false ⟨#[], #[.slice none 0 0], []⟩ 8 (by kernel_rfl) (by kernel_rfl) (by kernel_rfl) (by kernel_rfl)) ?_
  intro W base args ds gs before hval0 hW hcnd _
  have hval : ∀ (j : Nat) t v, Try.f8.params[j]? = some t → args[j]? = some v → Value.okWide Try.prog W .any base t v := hval0
  have hW' := hW
  obtain ⟨p, q, hA0, hV, rfl, hfz, hnd⟩ := hW
  have hA : DataW.TrodAll enc Try.prog W 0 (fun _ => true) true Try.f8.params.toList args.toList ds p := hA0
  rw [Try.params8] at hA hval
  obtain ⟨v0, vs0, d0, ds0, p0, q0, hargs, rfl, rfl, h0, r0⟩ := trodAll_cons hA
  obtain ⟨rfl, rfl, rfl⟩ := trodAll_nil r0
  obtain rfl : args = #[v0] := by cases args; simp_all
  obtain ⟨rfl, rfl⟩ := trodVars_none hV
  obtain ⟨a0, len0, cap0, rfl⟩ := okWide_slice Try.underlying60 (hval 0 60 v0 rfl rfl)
  have k0 := h0
  have lt0 : ∀ x ∈ p0, x.block < W.heap.size := by obtain ⟨m, hm⟩ := k0; exact DataW.trod_lt m _ _ _ hm
  obtain ⟨z0, w0⟩ : ∃ zs : Nat → Int, InRow W a0 len0 zs ∧ len0 ≤ cap0 ∧ cap0 ≤ 9223372036854775807 := by
    obtain ⟨fuel, hf⟩ := h0
    rcases open_ints Try.underlying60 Try.underlying3 (by kernel_rfl) hf with ⟨hcs, _⟩ | ⟨x, l, c, zs, hcs, _, hl, hm, hz, _, hcell, hwz⟩
    · simp [Value.cells] at hcs
      obtain ⟨rfl, rfl, rfl⟩ := hcs
      exact ⟨fun _ => 0, ⟨by unfold InRow; exact ⟨by omega, fun k hk => by omega⟩, by omega, by omega⟩⟩
    · simp [Value.cells] at hcs
      obtain ⟨rfl, rfl, rfl⟩ := hcs
      exact ⟨_, ⟨inRow_of (zs := zs) (.inr ⟨_, rfl, hl, hm, by simpa using hz, hcell, hwz⟩), hl, by unfold maxLen at hm; omega⟩⟩
  clear hA0 hval0
  refine (walk a0 len0 cap0 z0 W w0).mono fun e W' ⟨he, bel⟩ => ?_
  subst he
  exact ⟨_, rfl, _, _, _, [], _, [], hW', trodAll_mk1 (shut_bool Try.underlying4 _), (trodAll_cons_mk (Below.trod laidOut (by kernel_rfl) (of_decide_eq_true (by kernel_rfl)) k0 bel lt0) trodAll_mk0), rfl, bel.frame _, fun h => by cases h⟩

theorem over : Rows.wheelTiesRow.holds Try.pinned (OpenSpec.ofChange Rows.wheelTiesSpec) :=
  OpenClaim.holds_of_wide 8 Try.f8 rfl rfl rfl rfl rfl rfl rfl ⟨rfl, rfl, rfl, rfl, rfl⟩ rfl rfl rfl rfl rfl (by kernel_rfl) Try.func8 (by kernel_rfl)
    (of_decide_eq_true (by kernel_rfl)) (by unfold Func.isWrapper; first | (rw [if_pos (by decide +kernel)]; kernel_rfl) | (rw [if_neg (by decide +kernel)]; exact ⟨rfl, rfl⟩))
    (fun os started H enc _ => lifted os started H enc)

theorem proved : Rows.WheelTiesSaid := over
#print axioms proved
end Go.Proofs.Ytmekhijmghddiaa.wheelTies
