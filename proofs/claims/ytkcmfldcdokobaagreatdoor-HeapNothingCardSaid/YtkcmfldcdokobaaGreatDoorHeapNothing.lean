/- A term that has no room leaves the heap and the binaries as they were: HeapNothing answers true, for every two sizes and every two terms, where errors.errorType is the handle of the type error (tied to the program's text); the arguments read afterwards as before. -/
import Derived.Test.YtkcmfldcdokobaaGreatDoorRows
import Derived.Test.YtkcmfldcdokobaaGreatDoorM43
import Derived.Test.YtkcmfldcdokobaaGreatDoorCards
import Derived.Test.YtkcmfldcdokobaaGreatDoorTie
import Derived.SevenTiedAt
import Derived.Test.YtkcmfldcdokobaaGreatDoorM41
import Derived.WalkKit
import Derived.ProofKit
import Derived.OpenShut
import Derived.ShutString
import Derived.ChangeOld
import Derived.Below
import Derived.Deep.Strs
namespace Go.Proofs.YtkcmfldcdokobaaGreatDoor.heapNothing
open Go.ChangeShapes Go.WideShapes Go.ChangeAt Go.RowKit
open Go.ChangeMaps (open_string shut_string)
set_option linter.unusedVariables false

theorem own : ownKnob Tryz.prog.godebug = none := by kernel_rfl
theorem laidOut : laidOutB Tryz.prog = true := by kernel_rfl

theorem walk (a0 a1 : Int) (T2 : Tm) (m2 : Nat) (a2 b2 : Int) (c2 : ByteArray) (e2 : Option Addr) (f2 g2 : Nat) (i2 : Option Addr) (j2 l2 : Nat) (n2 : Option Addr) (o2 u2 : Nat) (T3 : Tm) (m3 : Nat) (a3 b3 : Int) (c3 : ByteArray) (e3 : Option Addr) (f3 g3 : Nat) (i3 : Option Addr) (j3 l3 : Nat) (n3 : Option Addr) (o3 u3 : Nat) (w : World) (h0 : (Lit.int .i64 a0).wf = true) (h1 : (Lit.int .i64 a1).wf = true)
    (h2 : TermAt (fun q => q < w.heap.size) w m2 T2 [.int .i64 a2, .int .i64 b2, .string c2, .slice e2 f2 g2, .slice i2 j2 l2, .slice n2 o2 u2])
    (h3 : TermAt (fun q => q < w.heap.size) w m3 T3 [.int .i64 a3, .int .i64 b3, .string c3, .slice e3 f3 g3, .slice i3 j3 l3, .slice n3 o3 u3]) (hg : Laid0 w) :
    Calls Tryz.prog 5 #[.int .i64 a0, .int .i64 a1, .agg #[.int .i64 a2, .int .i64 b2, .string c2, .slice e2 f2 g2, .slice i2 j2 l2, .slice n2 o2 u2], .agg #[.int .i64 a3, .int .i64 b3, .string c3, .slice e3 f3 g3, .slice i3 j3 l3, .slice n3 o3 u3]] w fun e w' => e = .returned (.bool true) ∧ Below w.heap.size w w' :=
  (nothing_walk a0 a1 (bounds_i64 h0) (bounds_i64 h1) T2 m2 _ _ _ _ _ _ T3 m3 _ _ _ _ _ _ w h2 h3 hg).mono fun _ _ ⟨h2, h3⟩ => ⟨h2, h3.below _ (Nat.le_refl _) (fun _ e => e.elim)⟩

set_option maxRecDepth 100000 in
theorem lifted (os : Os) (started : os.Started) (H : Type) (enc : TypeId × Value → H) :
    ReturnsInHanded {} Tryz.checked os 5 .any (fun w args => (Rows.heapNothingSpec.pre enc Tryz.prog Tryz.f5 Rows.heapNothingRow.domain false w args ∧ laidMetH Tryz.prog laidList w) ∧ sizedMet enc Tryz.prog Tryz.f5 (OpenSpec.ofChange Rows.heapNothingSpec) false w args) (Rows.heapNothingSpec.post enc Tryz.prog Tryz.f5 false true false false) := by
  refine returnsInHanded_of_change_and (C := Tryz.checked) (X := fun w _ => laidMetH Tryz.prog laidList w) (fun _ _ _ hh h => h.of_heap hh) own started (by kernel_rfl) Tryz.func5
    (ChangeSpec.witness_at (enc := enc) (C := Tryz.checked) (os := os) (X := fun w _ => laidMetH Tryz.prog laidList w) false ({ World.holding Tryz.prog os ⟨#[], #[], []⟩ with heap := (World.holding Tryz.prog os ⟨#[], #[], []⟩).heap.modify 0 (layCell (.iface 241 (.agg #[.pointer (some ⟨1, 29, none⟩)]))) } : World) #[.int .i64 0, .int .i64 0, .agg #[.int .i64 0, .int .i64 0, .string ByteArray.empty, .slice none 0 0, .slice none 0 0, .slice none 0 0], .agg #[.int .i64 0, .int .i64 0, .string ByteArray.empty, .slice none 0 0, .slice none 0 0, .slice none 0 0]] 8 rfl (by kernel_rfl) (by kernel_rfl) (by kernel_rfl) (by kernel_rfl) (by kernel_rfl) (laidWorld_met os _)) ?_
  intro W base args ds gs before hval0 hW hcnd hsz0 hL _
  have hval : ∀ (j : Nat) t v, Tryz.f5.params[j]? = some t → args[j]? = some v → Value.okWide Tryz.prog W .any base t v := hval0
  have hW' := hW
  obtain ⟨p, q, hA0, hV, rfl, hfz, hnd⟩ := hW
  have hA : DataW.TrodAll enc Tryz.prog W 0 (fun _ => true) true Tryz.f5.params.toList args.toList ds p := hA0
  rw [Tryz.params5] at hA hval
  obtain ⟨v0, vs0, d0, ds0, p0, q0, hargs, rfl, rfl, h0, r0⟩ := trodAll_cons hA
  obtain ⟨v1, vs1, d1, ds1, p1, q1, rfl, rfl, rfl, h1, r1⟩ := trodAll_cons r0
  obtain ⟨v2, vs2, d2, ds2, p2, q2, rfl, rfl, rfl, h2, r2⟩ := trodAll_cons r1
  obtain ⟨v3, vs3, d3, ds3, p3, q3, rfl, rfl, rfl, h3, r3⟩ := trodAll_cons r2
  obtain ⟨rfl, rfl, rfl⟩ := trodAll_nil r3
  obtain rfl : args = #[v0, v1, v2, v3] := by cases args; simp_all
  obtain ⟨rfl, rfl⟩ := trodVars_none hV
  have hsz : ∀ (j : Nat) t d, ((Tryz.f5.params.toList) : List TypeId)[j]? = some t → [d0, d1, d2, d3][j]? = some d → ∀ n ∈ d.weights Tryz.prog t, n ≤ reachBytes := fun j t d ht hd n hn => of_decide_eq_true (List.all_eq_true.1 hsz0 n (DataW.weights_mem_each (j := j) (List.getElem?_append_left (List.getElem?_eq_some_iff.1 ht).1 ▸ ht) (List.getElem?_append_left (List.getElem?_eq_some_iff.1 hd).1 ▸ hd) n hn))
  clear hsz0
  obtain ⟨a0, rfl, rfl, rfl, w0⟩ := open_int Tryz.underlying3 (hval 0 3 v0 rfl rfl) h0
  obtain ⟨a1, rfl, rfl, rfl, w1⟩ := open_int Tryz.underlying3 (hval 1 3 v1 rfl rfl) h1
  have k2 := h2
  have lt2 : ∀ x ∈ p2, x.block < W.heap.size := by obtain ⟨m, hm⟩ := k2; exact DataW.trod_lt m _ _ _ hm
  obtain ⟨T2, m2, a2, b2, c2, e2, f2, g2, i2, j2, l2, n2, o2, u2, hv2, w2⟩ : ∃ T m k n s a l c a2 l2 d a3 l3 e, v2 = .agg #[.int .i64 k, .int .i64 n, .string s, .slice a l c, .slice a2 l2 d, .slice a3 l3 e] ∧ TermAt (fun q => q < W.heap.size) W m T [.int .i64 k, .int .i64 n, .string s, .slice a l c, .slice a2 l2 d, .slice a3 l3 e] := by
    obtain ⟨fuel, hf⟩ := h2
    obtain ⟨T, hT⟩ := opened_terms Tryz.underlying41 (by kernel_rfl) (by kernel_rfl) Tryz.underlying3 Tryz.underlying2 Tryz.underlying9 Tryz.underlying38 Tryz.underlying38 Tryz.underlying39 Tryz.underlying5 (by kernel_rfl) (by kernel_rfl) (by kernel_rfl) _ fuel _ _ (Nat.le_refl _) (hsz 2 _ _ rfl rfl) hf
    obtain ⟨k, n, s, a, l, c, a2, l2, d, a3, l3, e, hcs⟩ := hT.form
    rw [hcs] at hT
    exact ⟨T, _, k, n, s, a, l, c, a2, l2, d, a3, l3, e, agg_of hcs, hT⟩
  subst hv2
  have k3 := h3
  have lt3 : ∀ x ∈ p3, x.block < W.heap.size := by obtain ⟨m, hm⟩ := k3; exact DataW.trod_lt m _ _ _ hm
  obtain ⟨T3, m3, a3, b3, c3, e3, f3, g3, i3, j3, l3, n3, o3, u3, hv3, w3⟩ : ∃ T m k n s a l c a2 l2 d a3 l3 e, v3 = .agg #[.int .i64 k, .int .i64 n, .string s, .slice a l c, .slice a2 l2 d, .slice a3 l3 e] ∧ TermAt (fun q => q < W.heap.size) W m T [.int .i64 k, .int .i64 n, .string s, .slice a l c, .slice a2 l2 d, .slice a3 l3 e] := by
    obtain ⟨fuel, hf⟩ := h3
    obtain ⟨T, hT⟩ := opened_terms Tryz.underlying41 (by kernel_rfl) (by kernel_rfl) Tryz.underlying3 Tryz.underlying2 Tryz.underlying9 Tryz.underlying38 Tryz.underlying38 Tryz.underlying39 Tryz.underlying5 (by kernel_rfl) (by kernel_rfl) (by kernel_rfl) _ fuel _ _ (Nat.le_refl _) (hsz 3 _ _ rfl rfl) hf
    obtain ⟨k, n, s, a, l, c, a2, l2, d, a3, l3, e, hcs⟩ := hT.form
    rw [hcs] at hT
    exact ⟨T, _, k, n, s, a, l, c, a2, l2, d, a3, l3, e, agg_of hcs, hT⟩
  subst hv3
  clear hA0 hval0
  have hg := laid0_of hL
  simp only [List.nil_append] at hW'
  refine (walk a0 a1 T2 m2 a2 b2 c2 e2 f2 g2 i2 j2 l2 n2 o2 u2 T3 m3 a3 b3 c3 e3 f3 g3 i3 j3 l3 n3 o3 u3 W w0 w1 w2 w3 hg).mono fun e W' ⟨he, bel⟩ => ?_
  subst he
  exact ⟨_, rfl, _, _, _, [], _, [], hW', trodAll_mk1 (shut_bool Tryz.underlying4 _), (trodAll_cons_mk (shut_int Tryz.underlying3 w0) (trodAll_cons_mk (shut_int Tryz.underlying3 w1) (trodAll_cons_mk (Below.trod laidOut (by kernel_rfl) (of_decide_eq_true (by kernel_rfl)) k2 bel lt2) (trodAll_cons_mk (Below.trod laidOut (by kernel_rfl) (of_decide_eq_true (by kernel_rfl)) k3 bel lt3) trodAll_mk0)))), rfl, bel.frame _, fun h => by cases h⟩

theorem over : Rows.heapNothingRow.holds Tryz.pinned (OpenSpec.ofChange Rows.heapNothingSpec) :=
  OpenClaim.holds_of_wide 5 Tryz.f5 rfl rfl rfl rfl rfl rfl rfl ⟨rfl, rfl, rfl, rfl, rfl⟩ rfl rfl rfl rfl rfl (by kernel_rfl) Tryz.func5 (by kernel_rfl)
    (of_decide_eq_true (by kernel_rfl)) (by unfold Func.isWrapper; first | (rw [if_pos (by decide +kernel)]; kernel_rfl) | (rw [if_neg (by decide +kernel)]; exact ⟨rfl, rfl⟩))
    (fun os started H enc _ => lifted os started H enc)

theorem proved : Rows.HeapNothingCardSaid :=
  Claim7.holds_tied_plain_at .later [] [.handle] true (true, "b84b3e9f05cf65b6c28f262063983a571e65060ee0138a3673fd7bb22660c8ea") true
    over (fun _ h => by cases h) (by kernel_rfl) (fun _ h => by cases h) heapNothing_row_tie rfl ⟨rfl, rfl⟩ (by kernel_rfl) rfl
    (fun g fn hf hfn => by
      obtain rfl : g = 5 := Option.some.inj ((show Tryz.prog.funcNamed "troupe/troupelaw06.HeapNothing" = some 5 by kernel_rfl).symm.trans hf) |>.symm
      obtain rfl : fn = Tryz.f5 := (Option.some.inj (Tryz.func5.symm.trans hfn)).symm
      exact ⟨by kernel_rfl, fun j t ht => by
        rw [Tryz.params5] at ht
        have h3 : t = 3 ∨ t = 3 ∨ t = 41 ∨ t = 41 := by
          match j, ht with
          | 0, ht => exact (Or.inl (by have := Option.some.inj ht; first | exact this.symm | simpa using this.symm))
          | 1, ht => exact (Or.inr (Or.inl (by have := Option.some.inj ht; first | exact this.symm | simpa using this.symm)))
          | 2, ht => exact (Or.inr (Or.inr (Or.inl (by have := Option.some.inj ht; first | exact this.symm | simpa using this.symm))))
          | 3, ht => exact (Or.inr (Or.inr (Or.inr (by have := Option.some.inj ht; first | exact this.symm | simpa using this.symm))))
          | j + 4, ht => simp at ht
        rcases h3 with rfl | rfl | rfl | rfl
        · exact (show Tryz.prog.wantsStandIn 3 = false by kernel_rfl)
        · exact (show Tryz.prog.wantsStandIn 3 = false by kernel_rfl)
        · exact (show Tryz.prog.wantsStandIn 41 = false by kernel_rfl)
        · exact (show Tryz.prog.wantsStandIn 41 = false by kernel_rfl)⟩)
    (by kernel_rfl)
#print axioms proved
end Go.Proofs.YtkcmfldcdokobaaGreatDoor.heapNothing
