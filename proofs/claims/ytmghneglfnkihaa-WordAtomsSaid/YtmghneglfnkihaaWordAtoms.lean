/- The Go function WordAtoms returns true for every list of names and every list of numbers, and leaves both as they were: names get numbers in the order in which they are asked for, and numbers tell their names, as chapter 4 says. Conditions: none beyond the statement's own. -/
import Derived.Test.YtmghneglfnkihaaRows
import Derived.Test.YtmghneglfnkihaaBoth
import Derived.WalkKit
import Derived.ProofKit
import Derived.OpenShut
import Derived.ShutString
import Derived.ChangeOld
import Derived.Below
import Derived.Deep.Strs
namespace Go.Proofs.Ytmghneglfnkihaa.wordAtoms
open Go.ChangeShapes Go.WideShapes Go.ChangeAt Go.RowKit
open Go.ChangeMaps (open_string shut_string)
set_option linter.unusedVariables false

theorem own : ownKnob Try.prog.godebug = none := by kernel_rfl
theorem laidOut : laidOutB Try.prog = true := by kernel_rfl

set_option maxHeartbeats 1000000 in
set_option maxRecDepth 100000 in
theorem walk (a0 : Option Addr) (len0 cap0 : Nat) (z0 : Nat → ByteArray) (a1 : Option Addr) (len1 cap1 : Nat) (z1 : Nat → Int) (w : World) (h0 : StrIn w a0 len0 z0) (h1 : InRow w a1 len1 z1) :
    Calls Try.prog 3 #[.slice a0 len0 cap0, .slice a1 len1 cap1] w fun e w' => e = .returned (.bool true) ∧ Below w.heap.size w w' := by
  have hl1 := h1.1
  go_enter Try.func3, Try.ntmps3
  go_wp2_with fail
  refine (both_any h0).mono ?_
  rintro e w1 ⟨pa, pb, t, rfl, hP⟩
  have HP := Lib.hid hP
  clear hP h0
  go_wp2_with fail
  go_loopg [8] len1 (fun gk i wr => ∃ k : Nat, k ≤ len1 ∧ gk = len1 - k ∧ i = .int .i64 k ∧ Pair w wr pa pb t)
  case atStart => exact ⟨0, by omega, rfl, rfl, HP.out⟩
  case round =>
    clear HP
    obtain ⟨k, hk, rfl, rfl, F, G, hP⟩ := hrel
    by_cases hlt : k < len1
    · obtain ⟨bx, off, rfl, hc, hb1, hb2⟩ := h1.at' hP.kp k hlt
      obtain ⟨n, hn⟩ : ∃ n, z1 k = n := ⟨_, rfl⟩
      rw [hn] at hc hb1 hb2
      have hm := hP.ra.many
      have hli : (k : Int) < len1 := by omega
      by_cases hin : n < 0 ∨ (t.length : Int) ≤ n
      · have HP := Lib.hid (And.intro hP (And.intro hm hn))
        clear hP hm hn
        go_wp2_with fail
        refine (name_bad HP.out.1.ra n hin).mono ?_
        rintro e w1 ⟨v1, rfl, hch1, hk1⟩
        have hP1 := HP.out.1.same hk1
        obtain ⟨bx2, off2, e1, hcA, _⟩ := h1.at' hP1.kp k hlt
        have hcB : w1.cell? ⟨bx, off + k, none⟩ = some (.int .i64 n) := by
          injection e1 with e1
          injection e1 with e1 e2
          subst e1
          subst e2
          rw [← HP.out.2.2]
          exact hcA
        have HP1 := Lib.hid (And.intro hP1 hch1)
        clear hP1 hch1 hk1 hcA e1 hc
        go_wp2_with fail
        refine (xname_bad HP1.out.1.rx HP.out.2.1.1 n hin).mono ?_
        rintro e w2 ⟨v2, rfl, hch2, hk2⟩
        have hP2 := HP1.out.1.same hk2
        have hch3 : Chain w2 v1 _ := Chain.kp hk2 _ _ HP1.out.2.out
        have HP2 := Lib.hid (And.intro hP2 (And.intro hch3 hch2))
        clear hP2 hch3 hch2 hk2
        go_wp2_with fail
        refine (ref_any _ v1 v2 _ (by simp) HP2.out.2.1 HP2.out.2.2).mono ?_
        rintro e w3 ⟨rfl, hk3⟩
        have hP3 := HP2.out.1.same hk3
        go_wp2_with fail
        go_roundg (len1 - (k + 1))
        case measure => omega
        case rel => exact ⟨k + 1, by omega, rfl, by go_num, _, _, hP3⟩
      · obtain ⟨j, rfl⟩ := Int.eq_ofNat_of_zero_le (show 0 ≤ n by omega)
        have hjl : j < t.length := by omega
        obtain ⟨s, hs⟩ : ∃ s, t[j]? = some s := ⟨t[j], List.getElem?_eq_getElem hjl⟩
        have HP := Lib.hid (And.intro hP (And.intro hm (And.intro hn hs)))
        clear hP hm hn hs
        go_wp2_with fail
        refine (name_ok HP.out.1.ra j s HP.out.2.2.2).mono ?_
        rintro e w1 ⟨rfl, rfl⟩
        go_wp2_with fail
        refine (xname_ok HP.out.1.rx HP.out.2.1.1 j s HP.out.2.2.2).mono ?_
        rintro e w2 ⟨rfl, rfl⟩
        go_wp2_with fail
        refine (ref_any [] _ _ _ (by simp) rfl rfl).mono ?_
        rintro e w3 ⟨rfl, hk3⟩
        have hP3 := HP.out.1.same hk3
        go_wp2_with fail
        go_roundg (len1 - (k + 1))
        case measure => omega
        case rel => exact ⟨k + 1, by omega, rfl, by go_num, _, _, hP3⟩
    · obtain rfl : k = len1 := by omega
      have hK := hP.kp
      clear hP
      go_wp2_with (go_at_call 15; refine (awake_any _).mono ?_; rintro e w6 ⟨rfl, hk6⟩)
      go_ret
      exact ⟨rfl, (hK.trans' hk6).below _ (Nat.le_refl _) (fun _ e => e.elim)⟩

set_option maxRecDepth 100000 in
theorem lifted (os : Os) (started : os.Started) (H : Type) (enc : TypeId × Value → H) :
    ReturnsInHanded {} Try.checked os 3 .any (Rows.wordAtomsSpec.pre6 enc Try.prog Try.f3 Rows.wordAtomsRow.domain false) (Rows.wordAtomsSpec.post enc Try.prog Try.f3 false true false false) := by
  refine returnsInHanded_of_change (C := Try.checked) own started (by kernel_rfl) Try.func3
    (ChangeSpec.witness6 (enc := enc) (C := Try.checked) false ⟨#[], #[.slice none 0 0, .slice none 0 0], []⟩ 8 (by kernel_rfl) (by kernel_rfl) (by kernel_rfl) (by kernel_rfl)) ?_
  intro W base args ds gs before hval0 hW hcnd _
  have hval : ∀ (j : Nat) t v, Try.f3.params[j]? = some t → args[j]? = some v → Value.okWide Try.prog W .any base t v := hval0
  have hW' := hW
  obtain ⟨p, q, hA0, hV, rfl, hfz, hnd⟩ := hW
  have hA : DataW.TrodAll enc Try.prog W 0 (fun _ => true) true Try.f3.params.toList args.toList ds p := hA0
  rw [Try.params3] at hA hval
  obtain ⟨v0, vs0, d0, ds0, p0, q0, hargs, rfl, rfl, h0, r0⟩ := trodAll_cons hA
  obtain ⟨v1, vs1, d1, ds1, p1, q1, rfl, rfl, rfl, h1, r1⟩ := trodAll_cons r0
  obtain ⟨rfl, rfl, rfl⟩ := trodAll_nil r1
  obtain rfl : args = #[v0, v1] := by cases args; simp_all
  obtain ⟨rfl, rfl⟩ := trodVars_none hV
  obtain ⟨a0, len0, cap0, rfl⟩ := okWide_slice Try.underlying22 (hval 0 22 v0 rfl rfl)
  have k0 := h0
  have lt0 : ∀ x ∈ p0, x.block < W.heap.size := by obtain ⟨m, hm⟩ := k0; exact DataW.trod_lt m _ _ _ hm
  obtain ⟨z0, w0⟩ : ∃ zs : Nat → ByteArray, StrIn W a0 len0 zs := by
    obtain ⟨fuel, hf⟩ := h0
    rcases Go.Deep.open_strs Try.underlying22 Try.underlying9 (by kernel_rfl) hf with ⟨hcs, _⟩ | ⟨x, l, c, m, Sx, hcs, _, hl, hm, hmm, _, hcell⟩
    · simp [Value.cells] at hcs
      obtain ⟨rfl, rfl, rfl⟩ := hcs
      exact ⟨fun _ => ByteArray.empty, by unfold StrIn; exact ⟨by omega, fun k hk => by omega⟩⟩
    · simp [Value.cells] at hcs
      obtain ⟨rfl, rfl, rfl⟩ := hcs
      exact ⟨Sx, strIn_of (by omega) (fun k hk => hcell k (by rw [hmm]; split <;> omega))⟩
  obtain ⟨a1, len1, cap1, rfl⟩ := okWide_slice Try.underlying23 (hval 1 23 v1 rfl rfl)
  have k1 := h1
  have lt1 : ∀ x ∈ p1, x.block < W.heap.size := by obtain ⟨m, hm⟩ := k1; exact DataW.trod_lt m _ _ _ hm
  obtain ⟨z1, w1⟩ : ∃ zs : Nat → Int, InRow W a1 len1 zs := by
    obtain ⟨fuel, hf⟩ := h1
    rcases open_ints Try.underlying23 Try.underlying3 (by kernel_rfl) hf with ⟨hcs, _⟩ | ⟨x, l, c, zs, hcs, _, hl, hm, hz, _, hcell, hwz⟩
    · simp [Value.cells] at hcs
      obtain ⟨rfl, rfl, rfl⟩ := hcs
      exact ⟨fun _ => 0, by unfold InRow; exact ⟨by omega, fun k hk => by omega⟩⟩
    · simp [Value.cells] at hcs
      obtain ⟨rfl, rfl, rfl⟩ := hcs
      exact ⟨_, inRow_of (zs := zs) (.inr ⟨_, rfl, hl, hm, by simpa using hz, hcell, hwz⟩)⟩
  clear hA0 hval0
  refine (walk a0 len0 cap0 z0 a1 len1 cap1 z1 W w0 w1).mono fun e W' ⟨he, bel⟩ => ?_
  subst he
  exact ⟨_, rfl, _, _, _, [], _, [], hW', trodAll_mk1 (shut_bool Try.underlying4 _), (trodAll_cons_mk (Below.trod laidOut (by kernel_rfl) (of_decide_eq_true (by kernel_rfl)) k0 bel lt0) (trodAll_cons_mk (Below.trod laidOut (by kernel_rfl) (of_decide_eq_true (by kernel_rfl)) k1 bel lt1) trodAll_mk0)), rfl, bel.frame _, fun h => by cases h⟩

theorem over : Rows.wordAtomsRow.holds Try.pinned (OpenSpec.ofChange Rows.wordAtomsSpec) :=
  OpenClaim.holds_of_wide 3 Try.f3 rfl rfl rfl rfl rfl rfl rfl ⟨rfl, rfl, rfl, rfl, rfl⟩ rfl rfl rfl rfl rfl (by kernel_rfl) Try.func3 (by kernel_rfl)
    (of_decide_eq_true (by kernel_rfl)) (by unfold Func.isWrapper; first | (rw [if_pos (by decide +kernel)]; kernel_rfl) | (rw [if_neg (by decide +kernel)]; exact ⟨rfl, rfl⟩))
    (fun os started H enc _ => lifted os started H enc)

theorem proved : Rows.WordAtomsSaid := over
#print axioms proved
end Go.Proofs.Ytmghneglfnkihaa.wordAtoms
