/- The Go function WordPlains returns true for every list of names and every word, and leaves the list as it was: a word is told as the term that chapter 4 says, in a table of these names. Conditions: none beyond the statement's own. -/
import Derived.Test.YtmghneglfnkihaaRows
import Derived.Test.YtmghneglfnkihaaPlain
import Derived.WalkKit
import Derived.ProofKit
import Derived.OpenShut
import Derived.ShutString
import Derived.ChangeOld
import Derived.Below
import Derived.Deep.Strs
namespace Go.Proofs.Ytmghneglfnkihaa.wordPlains
open Go.ChangeShapes Go.WideShapes Go.ChangeAt Go.RowKit
open Go.ChangeMaps (open_string shut_string)
set_option linter.unusedVariables false

theorem own : ownKnob Try.prog.godebug = none := by kernel_rfl
theorem laidOut : laidOutB Try.prog = true := by kernel_rfl

set_option maxHeartbeats 1000000 in
set_option maxRecDepth 100000 in
theorem walk (a0 : Option Addr) (len0 cap0 : Nat) (z0 : Nat → ByteArray) (a1 : Int) (w : World) (h0 : StrIn w a0 len0 z0) (h1 : (Lit.int .u64 a1).wf = true) :
    Calls Try.prog 5 #[.slice a0 len0 cap0, .int .u64 a1] w fun e w' => e = .returned (.bool true) ∧ Below w.heap.size w w' := by
  obtain ⟨x0, x1⟩ := bounds_u64 h1
  clear h1
  go_enter Try.func5, Try.ntmps5
  go_wp2_with fail
  refine (both_any h0).mono ?_
  rintro e w1 ⟨pa, pb, t, rfl, F, G, hP⟩
  obtain ⟨T, ok, l, hT⟩ := plainIs_any a1 t x0 x1
  have hm := hP.ra.many.1
  have HP := Lib.hid (And.intro hP (And.intro hT hm))
  obtain ⟨hl, k, n, s, rfl⟩ := hT.short
  clear hP h0 hT hm
  go_wp2_with fail
  refine (plain_any HP.out.1.ra a1 x0 x1 HP.out.2.1).mono ?_
  rintro e w2 ⟨v1, rfl, hc1, hk1⟩
  have hk2 : Kp (fun _ => False) w2 (w2.alloc (.cells #[.int .i64 k, .int .i64 n, .string s, .slice none 0 0, .slice none 0 0, .slice none 0 0] 41)) := (Kp.refl _ w2).alloc _
  have hP2 := (HP.out.1.same hk1).same hk2
  have hc2 := Chain.kp hk2 _ _ hc1
  have Hk := Lib.hid (And.intro hc2 hP2)
  clear hc1 hk1 hP2 hc2 hk2
  unfold termOf
  go_wp2_with fail
  refine (xplain_any Hk.out.2.rx HP.out.2.2 a1 x0 x1 HP.out.2.1).mono ?_
  rintro e w3 ⟨v2, he, hx3, hk3⟩
  unfold termOf at he
  subst he
  have hb3 : w3.heap[w2.heap.size]? = some (.cells #[.int .i64 k, .int .i64 n, .string s, .slice none 0 0, .slice none 0 0, .slice none 0 0] 41 (0, 0)) := (hk3.block _ (by simp) (fun e => e)).trans (heap_alloc_new w2 _)
  have hk4 : Kp (fun _ => False) w3 (w3.alloc (.cells #[.int .i64 k, .int .i64 n, .string s, .slice none 0 0, .slice none 0 0, .slice none 0 0] 41)) := (Kp.refl _ w3).alloc _
  have hb4 := (hk4.block _ (Array.getElem?_eq_some_iff.1 hb3).1 (fun e => e)).trans hb3
  have hcell : ∀ j, (w3.alloc (.cells #[.int .i64 k, .int .i64 n, .string s, .slice none 0 0, .slice none 0 0, .slice none 0 0] 41)).cell? ⟨w2.heap.size, j, none⟩ = #[Value.int .i64 k, .int .i64 n, .string s, .slice none 0 0, .slice none 0 0, .slice none 0 0][j]? := fun j => cell_of_row _ _ j _ _ _ hb4
  have d0 := (hcell 0).trans (show _ = some (Value.int .i64 k) from rfl)
  have d1 := (hcell 1).trans (show _ = some (Value.int .i64 n) from rfl)
  have d2 := (hcell 2).trans (show _ = some (Value.string s) from rfl)
  have d3 := (hcell 3).trans (show _ = some (Value.slice none 0 0) from rfl)
  have d4 := (hcell 4).trans (show _ = some (Value.slice none 0 0) from rfl)
  have d5 := (hcell 5).trans (show _ = some (Value.slice none 0 0) from rfl)
  have hP4 := (Hk.out.2.same hk3).same hk4
  have hc4 := Chain.kp hk4 _ _ (Chain.kp hk3 _ _ Hk.out.1)
  have hx4 := XCh.kp hk4 _ _ hx3
  have H4 := Lib.hid (And.intro hP4 (And.intro hc4 hx4))
  clear hx3 hk3 hb3 hk4 hb4 hcell hP4 hc4 hx4
  go_wp2_with fail
  refine (same_leaf k n s _).mono ?_
  rintro e w5 ⟨rfl, hk5⟩
  have hP5 := H4.out.1.same hk5
  have H5 := Lib.hid (And.intro hP5 (And.intro (Chain.kp hk5 _ _ H4.out.2.1) (XCh.kp hk5 _ _ H4.out.2.2)))
  clear hP5 hk5 d0 d1 d2 d3 d4 d5
  go_wp2_with fail
  refine (ref_any l v1 v2 _ hl H5.out.2.1 H5.out.2.2).mono ?_
  rintro e w6 ⟨rfl, hk6⟩
  have hP6 := H5.out.1.same hk6
  have H6 := Lib.hid hP6
  clear hP6 hk6
  go_wp2_with (go_at_call 15; refine (awake_any _).mono ?_; rintro e w7 ⟨rfl, hk7⟩)
  go_ret
  exact ⟨rfl, (H6.out.kp.trans' hk7).below _ (Nat.le_refl _) (fun _ e => e.elim)⟩

set_option maxRecDepth 100000 in
theorem lifted (os : Os) (started : os.Started) (H : Type) (enc : TypeId × Value → H) :
    ReturnsInHanded {} Try.checked os 5 .any (Rows.wordPlainsSpec.pre6 enc Try.prog Try.f5 Rows.wordPlainsRow.domain false) (Rows.wordPlainsSpec.post enc Try.prog Try.f5 false true false false) := by
  refine returnsInHanded_of_change (C := Try.checked) own started (by kernel_rfl) Try.func5
    (ChangeSpec.witness6 (enc := enc) (C := Try.checked) false ⟨#[], #[.slice none 0 0, .int .u64 0], []⟩ 8 (by kernel_rfl) (by kernel_rfl) (by kernel_rfl) (by kernel_rfl)) ?_
  intro W base args ds gs before hval0 hW hcnd _
  have hval : ∀ (j : Nat) t v, Try.f5.params[j]? = some t → args[j]? = some v → Value.okWide Try.prog W .any base t v := hval0
  have hW' := hW
  obtain ⟨p, q, hA0, hV, rfl, hfz, hnd⟩ := hW
  have hA : DataW.TrodAll enc Try.prog W 0 (fun _ => true) true Try.f5.params.toList args.toList ds p := hA0
  rw [Try.params5] at hA hval
  obtain ⟨v0, vs0, d0, ds0, p0, q0, hargs, rfl, rfl, h0, r0⟩ := trodAll_cons hA
  obtain ⟨v1, vs1, d1, ds1, p1, q1, rfl, rfl, rfl, h1, r1⟩ := trodAll_cons r0
  obtain ⟨rfl, rfl, rfl⟩ := trodAll_nil r1
  obtain rfl : args = #[v0, v1] := by cases args; simp_all
  obtain ⟨rfl, rfl⟩ := trodVars_none hV
  obtain ⟨a0, len0, cap0, rfl⟩ := okWide_slice Try.underlying22 (hval 0 22 v0 rfl rfl)
  have k0 := h0
  have lt0 : ∀ x ∈ p0, x.block < W.heap.size := by obtain ⟨m, hm⟩ := k0; exact DataW.trod_lt m _ _ _ hm
  obtain ⟨z0, w0⟩ : ∃ zs : Nat → ByteArray, StrIn W a0 len0 zs := by
    obtain ⟨fuel, hf⟩ := h0
    rcases Go.Deep.open_strs Try.underlying22 Try.underlying9 (by kernel_rfl) hf with ⟨hcs, _⟩ | ⟨x, l, c, m, Sx, hcs, _, hl, hm, hmm, _, hcell⟩
    · simp [Value.cells] at hcs
      obtain ⟨rfl, rfl, rfl⟩ := hcs
      exact ⟨fun _ => ByteArray.empty, by unfold StrIn; exact ⟨by omega, fun k hk => by omega⟩⟩
    · simp [Value.cells] at hcs
      obtain ⟨rfl, rfl, rfl⟩ := hcs
      exact ⟨Sx, strIn_of (by omega) (fun k hk => hcell k (by rw [hmm]; split <;> omega))⟩
  obtain ⟨a1, rfl, rfl, rfl, w1⟩ := open_int Try.underlying42 (hval 1 42 v1 rfl rfl) h1
  clear hA0 hval0
  simp only [List.append_nil] at hW'
  refine (walk a0 len0 cap0 z0 a1 W w0 w1).mono fun e W' ⟨he, bel⟩ => ?_
  subst he
  exact ⟨_, rfl, _, _, _, [], _, [], hW', trodAll_mk1 (shut_bool Try.underlying4 _), (trodAll_cons_mk (Below.trod laidOut (by kernel_rfl) (of_decide_eq_true (by kernel_rfl)) k0 bel lt0) (trodAll_cons_mk (shut_int Try.underlying42 w1) trodAll_mk0)), rfl, bel.frame _, fun h => by cases h⟩

theorem over : Rows.wordPlainsRow.holds Try.pinned (OpenSpec.ofChange Rows.wordPlainsSpec) :=
  OpenClaim.holds_of_wide 5 Try.f5 rfl rfl rfl rfl rfl rfl rfl ⟨rfl, rfl, rfl, rfl, rfl⟩ rfl rfl rfl rfl rfl (by kernel_rfl) Try.func5 (by kernel_rfl)
    (of_decide_eq_true (by kernel_rfl)) (by unfold Func.isWrapper; first | (rw [if_pos (by decide +kernel)]; kernel_rfl) | (rw [if_neg (by decide +kernel)]; exact ⟨rfl, rfl⟩))
    (fun os started H enc _ => lifted os started H enc)

theorem proved : Rows.WordPlainsSaid := over
#print axioms proved
end Go.Proofs.Ytmghneglfnkihaa.wordPlains
