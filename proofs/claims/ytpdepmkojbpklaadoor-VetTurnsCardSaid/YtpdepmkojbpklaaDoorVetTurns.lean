/- A right module with one instruction turned is taken by vet only if the chapter's rules take it, and where it is refused the same is told. -/
import Derived.Test.YtpdepmkojbpklaaDoorRows
import Derived.Test.YtpdepmkojbpklaaDoorM45
import Derived.Test.YtpdepmkojbpklaaDoorCards
import Derived.Test.YtpdepmkojbpklaaDoorTie
import Derived.SevenTiedAt
import Derived.Test.YtpdepmkojbpklaaDoorM48
import Derived.Test.YtpdepmkojbpklaaDoorM50
import Derived.WalkKit
import Derived.ProofKit
import Derived.OpenShut
import Derived.ShutString
import Derived.ChangeOld
import Derived.Below
import Derived.Deep.Strs
namespace Go.Proofs.YtpdepmkojbpklaaDoor.vetTurns
open Go.ChangeShapes Go.WideShapes Go.ChangeAt Go.RowKit
open Go.ChangeMaps (open_string shut_string)
set_option linter.unusedVariables false

theorem own : ownKnob Tryd.prog.godebug = none := by kernel_rfl
theorem laidOut : laidOutB Tryd.prog = true := by kernel_rfl

theorem walk (T0 : Md) (m0 : Nat) (a0 : Option Addr) (b0 c0 : Nat) (e0 : Option Addr) (f0 g0 : Nat) (a1 a2 : Int) (zo3 za3 zb3 zc3 : Int) (w : World) (h0 : MdAt (fun q => q < w.heap.size) w m0 T0 [.string T0.name, .slice a0 b0 c0, .slice e0 f0 g0])
    (h1 : (Lit.int .i64 a1).wf = true) (h2 : (Lit.int .i64 a2).wf = true) (h3 : (⟨zo3, za3, zb3, zc3⟩ : In4).wf) (hL : laidMetH Tryd.prog laidList w) :
    Calls Tryd.prog 8 #[.agg #[.string T0.name, .slice a0 b0 c0, .slice e0 f0 g0], .int .i64 a1, .int .i64 a2, .agg #[.int .i64 zo3, .int .i64 za3, .int .i64 zb3, .int .i64 zc3]] w fun e w' => e = .returned (.bool true) ∧ Below w.heap.size w w' := by
  obtain ⟨pl, cl, pf, cf, e, -⟩ := mdIn_of h0 (fun _ e => e)
  simp only [List.cons.injEq, Value.slice.injEq, true_and, and_true] at e
  obtain ⟨⟨rfl, rfl, rfl⟩, rfl, rfl, rfl⟩ := e
  exact (turns_walk h0 a1 a2 (bounds_i64 h1).1 (bounds_i64 h1).2 (bounds_i64 h2).1 (bounds_i64 h2).2 zo3 za3 zb3 zc3 h3 (laid0_of hL) (laidT_of hL) (fun F wr T cs h => rright_any h)).mono fun _ _ ⟨h3, h4⟩ => ⟨h3, h4.below _ (Nat.le_refl _) (fun _ e => e.elim)⟩

set_option maxRecDepth 100000 in
theorem lifted (os : Os) (started : os.Started) (H : Type) (enc : TypeId × Value → H) :
    ReturnsInHanded {} Tryd.checked os 8 .any (fun w args => (Rows.vetTurnsSpec.pre enc Tryd.prog Tryd.f8 Rows.vetTurnsRow.domain false w args ∧ laidMetH Tryd.prog laidList w) ∧ sizedMet enc Tryd.prog Tryd.f8 (OpenSpec.ofChange Rows.vetTurnsSpec) false w args) (Rows.vetTurnsSpec.post enc Tryd.prog Tryd.f8 false true false false) := by
  refine returnsInHanded_of_change_and (C := Tryd.checked) (X := fun w _ => laidMetH Tryd.prog laidList w) (fun _ _ _ hh h => h.of_heap hh) own started (by kernel_rfl) Tryd.func8
    (ChangeSpec.witness_at (enc := enc) (C := Tryd.checked) (os := os) (X := fun w _ => laidMetH Tryd.prog laidList w) false (laidW os) #[.agg #[.string ByteArray.empty, .slice none 0 0, .slice none 0 0], .int .i64 0, .int .i64 0, .agg #[.int .i64 0, .int .i64 0, .int .i64 0, .int .i64 0]] 8 (laidW_os os) (by kernel_rfl) (by kernel_rfl) (by kernel_rfl) (by kernel_rfl) (by kernel_rfl) (laidWorld_met os _)) ?_
  intro W base args ds gs before hval0 hW hcnd hsz0 hL _
  have hval : ∀ (j : Nat) t v, Tryd.f8.params[j]? = some t → args[j]? = some v → Value.okWide Tryd.prog W .any base t v := hval0
  have hW' := hW
  obtain ⟨p, q, hA0, hV, rfl, hfz, hnd⟩ := hW
  have hA : DataW.TrodAll enc Tryd.prog W 0 (fun _ => true) true Tryd.f8.params.toList args.toList ds p := hA0
  rw [Tryd.params8] at hA hval
  obtain ⟨v0, vs0, d0, ds0, p0, q0, hargs, rfl, rfl, h0, r0⟩ := trodAll_cons hA
  obtain ⟨v1, vs1, d1, ds1, p1, q1, rfl, rfl, rfl, h1, r1⟩ := trodAll_cons r0
  obtain ⟨v2, vs2, d2, ds2, p2, q2, rfl, rfl, rfl, h2, r2⟩ := trodAll_cons r1
  obtain ⟨v3, vs3, d3, ds3, p3, q3, rfl, rfl, rfl, h3, r3⟩ := trodAll_cons r2
  obtain ⟨rfl, rfl, rfl⟩ := trodAll_nil r3
  obtain rfl : args = #[v0, v1, v2, v3] := by cases args; simp_all
  obtain ⟨rfl, rfl⟩ := trodVars_none hV
  have hsz : ∀ (j : Nat) t d, ((Tryd.f8.params.toList) : List TypeId)[j]? = some t → [d0, d1, d2, d3][j]? = some d → ∀ n ∈ d.weights Tryd.prog t, n ≤ reachBytes := fun j t d ht hd n hn => of_decide_eq_true (List.all_eq_true.1 hsz0 n (DataW.weights_mem_each (j := j) (List.getElem?_append_left (List.getElem?_eq_some_iff.1 ht).1 ▸ ht) (List.getElem?_append_left (List.getElem?_eq_some_iff.1 hd).1 ▸ hd) n hn))
  clear hsz0
  have k0 := h0
  have lt0 : ∀ x ∈ p0, x.block < W.heap.size := by obtain ⟨m, hm⟩ := k0; exact DataW.trod_lt m _ _ _ hm
  obtain ⟨T0, m0, a0, b0, c0, e0, f0, g0, hv0, w0⟩ : ∃ M k po n c po2 n2 c2, v0 = .agg #[.string M.name, .slice po n c, .slice po2 n2 c2] ∧ MdAt (fun q => q < W.heap.size) W k M [.string M.name, .slice po n c, .slice po2 n2 c2] := by
    obtain ⟨fuel, hf⟩ := h0
    obtain ⟨M, k, po, n, c, po2, n2, c2, hcs, hM, hb⟩ := opened_md Tryd.underlying29 (by kernel_rfl) (by kernel_rfl) Tryd.underlying3 Tryd.underlying3 Tryd.underlying3 Tryd.underlying3 (by kernel_rfl) Tryd.underlying32 (by kernel_rfl) (by kernel_rfl) Tryd.underlying9 Tryd.underlying3 Tryd.underlying3 Tryd.underlying30 (by kernel_rfl) Tryd.underlying35 (by kernel_rfl) (by kernel_rfl) Tryd.underlying3 Tryd.underlying2 Tryd.underlying9 Tryd.underlying23 Tryd.underlying23 Tryd.underlying33 Tryd.underlying5 (by kernel_rfl) (by kernel_rfl) (by kernel_rfl) Tryd.underlying26 (by kernel_rfl) (by kernel_rfl) Tryd.underlying9 Tryd.underlying23 Tryd.underlying24 fuel _ _ (hsz 0 _ _ rfl rfl) hf
    rw [hcs] at hM
    exact ⟨M, _, po, n, c, po2, n2, c2, agg3_of hcs, hM⟩
  subst hv0
  obtain ⟨a1, rfl, rfl, rfl, w1⟩ := open_int Tryd.underlying3 (hval 1 3 v1 rfl rfl) h1
  obtain ⟨a2, rfl, rfl, rfl, w2⟩ := open_int Tryd.underlying3 (hval 2 3 v2 rfl rfl) h2
  have k3 := h3
  have lt3 : ∀ x ∈ p3, x.block < W.heap.size := by obtain ⟨m, hm⟩ := k3; exact DataW.trod_lt m _ _ _ hm
  obtain ⟨zo3, za3, zb3, zc3, hv3, w3⟩ : ∃ o a b c, v3 = .agg #[.int .i64 o, .int .i64 a, .int .i64 b, .int .i64 c] ∧ (⟨o, a, b, c⟩ : In4).wf := by
    obtain ⟨fuel, hf⟩ := h3
    obtain ⟨⟨o, a, b, c⟩, hcs, hw⟩ := opened_ins Tryd.underlying29 (by kernel_rfl) (by kernel_rfl) Tryd.underlying3 Tryd.underlying3 Tryd.underlying3 Tryd.underlying3 fuel _ _ hf
    exact ⟨o, a, b, c, agg4_of hcs, hw⟩
  subst hv3
  clear hA0 hval0
  have hg := laid0_of hL
  simp only [List.nil_append] at hW'
  refine (walk T0 m0 a0 b0 c0 e0 f0 g0 a1 a2 zo3 za3 zb3 zc3 W w0 w1 w2 w3 hL).mono fun e W' ⟨he, bel⟩ => ?_
  subst he
  exact ⟨_, rfl, _, _, _, [], _, [], hW', trodAll_mk1 (shut_bool Tryd.underlying4 _), (trodAll_cons_mk (Below.trod laidOut (by kernel_rfl) (of_decide_eq_true (by kernel_rfl)) k0 bel lt0) (trodAll_cons_mk (shut_int Tryd.underlying3 w1) (trodAll_cons_mk (shut_int Tryd.underlying3 w2) (trodAll_cons_mk (Below.trod laidOut (by kernel_rfl) (of_decide_eq_true (by kernel_rfl)) k3 bel lt3) trodAll_mk0)))), rfl, bel.frame _, fun h => by cases h⟩

theorem over : Rows.vetTurnsRow.holds Tryd.pinned (OpenSpec.ofChange Rows.vetTurnsSpec) :=
  OpenClaim.holds_of_wide 8 Tryd.f8 rfl rfl rfl rfl rfl rfl rfl ⟨rfl, rfl, rfl, rfl, rfl⟩ rfl rfl rfl rfl rfl (by kernel_rfl) Tryd.func8 (by kernel_rfl)
    (of_decide_eq_true (by kernel_rfl)) (by unfold Func.isWrapper; first | (rw [if_pos (by decide +kernel)]; kernel_rfl) | (rw [if_neg (by decide +kernel)]; exact ⟨rfl, rfl⟩))
    (fun os started H enc _ => lifted os started H enc)

theorem proved : Rows.VetTurnsCardSaid :=
  Claim7.holds_tied_plain_at .later [] [.handle, .data] true (true, "0d679484b57700da12318b7188ac6cb0ee1884e8f66fffe9f55cacf5d873df6c") true
    over (fun _ h => by cases h) (by kernel_rfl) (fun _ h => by cases h) vetTurns_row_tie rfl ⟨rfl, rfl⟩ (by kernel_rfl) rfl
    (fun g fn hf hfn => by
      obtain rfl : g = 8 := Option.some.inj ((show Tryd.prog.funcNamed "troupe/troupelaw10.VetTurns" = some 8 by kernel_rfl).symm.trans hf) |>.symm
      obtain rfl : fn = Tryd.f8 := (Option.some.inj (Tryd.func8.symm.trans hfn)).symm
      exact ⟨by kernel_rfl, fun j t ht => by
        rw [Tryd.params8] at ht
        have h3 : t = 26 ∨ t = 3 ∨ t = 3 ∨ t = 29 := by
          match j, ht with
          | 0, ht => exact (Or.inl (by have := Option.some.inj ht; first | exact this.symm | simpa using this.symm))
          | 1, ht => exact (Or.inr (Or.inl (by have := Option.some.inj ht; first | exact this.symm | simpa using this.symm)))
          | 2, ht => exact (Or.inr (Or.inr (Or.inl (by have := Option.some.inj ht; first | exact this.symm | simpa using this.symm))))
          | 3, ht => exact (Or.inr (Or.inr (Or.inr (by have := Option.some.inj ht; first | exact this.symm | simpa using this.symm))))
          | j + 4, ht => simp at ht
        rcases h3 with rfl | rfl | rfl | rfl
        · exact (show Tryd.prog.wantsStandIn 26 = false by kernel_rfl)
        · exact (show Tryd.prog.wantsStandIn 3 = false by kernel_rfl)
        · exact (show Tryd.prog.wantsStandIn 3 = false by kernel_rfl)
        · exact (show Tryd.prog.wantsStandIn 29 = false by kernel_rfl)⟩)
    (by kernel_rfl)
#print axioms proved
end Go.Proofs.YtpdepmkojbpklaaDoor.vetTurns
