/- A module's bytes cut anywhere are refused, and with bytes behind them they are refused just there, where what comes in is of bulk at most 1048576. -/
import Derived.Test.YtaeoohjgdkablaaDoorRows
import Derived.Test.YtaeoohjgdkablaaDoorM01
import Derived.Test.YtaeoohjgdkablaaDoorCards
import Derived.Test.YtaeoohjgdkablaaDoorTie
import Derived.SevenTiedAt
import Derived.Test.YtaeoohjgdkablaaDoorM40
import Derived.Test.YtaeoohjgdkablaaDoorM41
import Derived.Deep.DeepHandedRow
import Derived.JoinedCond
import Derived.WalkKit
import Derived.ProofKit
import Derived.OpenShut
import Derived.ShutString
import Derived.ChangeOld
import Derived.Below
import Derived.Deep.Strs
namespace Go.Proofs.YtaeoohjgdkablaaDoor.codeCuts
open Go.ChangeShapes Go.WideShapes Go.ChangeAt Go.RowKit
open Go.ChangeMaps (open_string shut_string)
set_option linter.unusedVariables false

theorem own : ownKnob Tryd.prog.godebug = none := by kernel_rfl
theorem laidOut : laidOutB Tryd.prog = true := by kernel_rfl

theorem walk (M : Md) (k : Nat) (a : Option Addr) (n c : Nat) (a2 : Option Addr) (n2 c2 : Nat) (x1 : Int) (a3 : Option Addr) (n3 c3 : Nat) (z : Nat → UInt8) (w : World) (hm : MdAt (fun q => q < w.heap.size) w k M [.string M.name, .slice a n c, .slice a2 n2 c2]) (hb : mb M ≤ 1048576) (h1 : (Lit.int .i64 x1).wf = true) (h2 : BIn w a3 n3 c3 z ∧ n3 ≤ 1048576) (hg : Laid0 w) :
    Calls Tryd.prog 6 #[.agg #[.string M.name, .slice a n c, .slice a2 n2 c2], .int .i64 x1, .slice a3 n3 c3] w fun e w' => e = .returned (.bool true) ∧ Below w.heap.size w w' := by
  have hB : BytesAt (fun q => q < w.heap.size) w (bl z n3) (.slice a3 (bl z n3).length c3) := by
    have := bytes_of_in h2.1 (by have := h2.2; omega)
    rw [bl_len]
    exact this
  have := cuts_walk x1 hm hb hB (by rw [bl_len]; exact h2.2) hg (bounds_i64 h1).1 (bounds_i64 h1).2
  rw [bl_len] at this
  exact this.mono fun _ _ ⟨h2, h3⟩ => ⟨h2, h3.below _ (Nat.le_refl _) (fun _ e => e.elim)⟩

set_option maxRecDepth 100000 in
theorem contract (H : Type) (enc : TypeId × Value → H) (W : World) (base : Nat) (args : Array Value) (ds gs : List (DataW H)) (before : List MemPlace)
    (hval0 : ∀ (j : Nat) t v, Tryd.f6.params[j]? = some t → args[j]? = some v → Value.okWide Tryd.prog W .any base t v)
    (hW : DataW.Whole enc Tryd.prog Tryd.f6.params.toList Rows.codeCutsSpec.vars false W args.toList ds gs before) (hk : Rows.uptoSmall H (ds ++ gs) = true)
    (hsz0 : (DataW.weightsEach Tryd.prog (Tryd.f6.params.toList ++ (OpenSpec.ofChange Rows.codeCutsSpec).bare.plain.varTypes Tryd.prog) (ds ++ gs)).all (· ≤ reachBytes) = true) (hL : laidMetH Tryd.prog laidList W) :
    Calls Tryd.prog 6 args W fun e W' => ∃ v, e = .returned v ∧ Rows.codeCutsSpec.post enc Tryd.prog Tryd.f6 false true false false W args v W' := by
  have hval := hval0
  have hW' := hW
  obtain ⟨p, q, hA0, hV, rfl, hfz, hnd⟩ := hW
  have hA : DataW.TrodAll enc Tryd.prog W 0 (fun _ => true) true Tryd.f6.params.toList args.toList ds p := hA0
  rw [Tryd.params6] at hA hval
  obtain ⟨v0, vs0, d0, ds0, p0, q0, hargs, rfl, rfl, h0, r0⟩ := trodAll_cons hA
  obtain ⟨v1, vs1, d1, ds1, p1, q1, rfl, rfl, rfl, h1, r1⟩ := trodAll_cons r0
  obtain ⟨v2, vs2, d2, ds2, p2, q2, rfl, rfl, rfl, h2, r2⟩ := trodAll_cons r1
  obtain ⟨rfl, rfl, rfl⟩ := trodAll_nil r2
  obtain rfl : args = #[v0, v1, v2] := by cases args; simp_all
  obtain ⟨rfl, rfl⟩ := trodVars_none hV
  have hsz : ∀ (j : Nat) t d, ((Tryd.f6.params.toList) : List TypeId)[j]? = some t → [d0, d1, d2][j]? = some d → ∀ n ∈ d.weights Tryd.prog t, n ≤ reachBytes := fun j t d ht hd n hn => of_decide_eq_true (List.all_eq_true.1 hsz0 n (DataW.weights_mem_each (j := j) (List.getElem?_append_left (List.getElem?_eq_some_iff.1 ht).1 ▸ ht) (List.getElem?_append_left (List.getElem?_eq_some_iff.1 hd).1 ▸ hd) n hn))
  clear hsz0
  unfold Rows.uptoSmall at hk
  have hbulk := of_decide_eq_true hk
  simp only [List.append_nil, Rows.uptoBulkAll] at hbulk
  clear hk
  have k0 := h0
  have lt0 : ∀ x ∈ p0, x.block < W.heap.size := by obtain ⟨m, hm⟩ := k0; exact DataW.trod_lt m _ _ _ hm
  obtain ⟨T0, m0, a0, b0, c0, e0, f0, g0, hv0, w0, y0⟩ : ∃ M k po n c po2 n2 c2, v0 = .agg #[.string M.name, .slice po n c, .slice po2 n2 c2] ∧ MdAt (fun q => q < W.heap.size) W k M [.string M.name, .slice po n c, .slice po2 n2 c2] ∧ mb M ≤ 1048576 := by
    obtain ⟨fuel, hf⟩ := h0
    obtain ⟨M, k, po, n, c, po2, n2, c2, hcs, hM, hb⟩ := opened_md Tryd.underlying27 (by kernel_rfl) (by kernel_rfl) Tryd.underlying3 Tryd.underlying3 Tryd.underlying3 Tryd.underlying3 (by kernel_rfl) Tryd.underlying30 (by kernel_rfl) (by kernel_rfl) Tryd.underlying9 Tryd.underlying3 Tryd.underlying3 Tryd.underlying28 (by kernel_rfl) Tryd.underlying25 (by kernel_rfl) (by kernel_rfl) Tryd.underlying3 Tryd.underlying2 Tryd.underlying9 Tryd.underlying22 Tryd.underlying22 Tryd.underlying23 Tryd.underlying5 (by kernel_rfl) (by kernel_rfl) (by kernel_rfl) Tryd.underlying33 (by kernel_rfl) (by kernel_rfl) Tryd.underlying9 Tryd.underlying22 Tryd.underlying31 fuel _ _ (hsz 0 _ _ rfl rfl) hf
    rw [hcs] at hM
    exact ⟨M, _, po, n, c, po2, n2, c2, agg3_of hcs, hM, by simp only at hb; omega⟩
  subst hv0
  obtain ⟨a1, rfl, rfl, rfl, w1⟩ := open_int Tryd.underlying3 (hval 1 3 v1 rfl rfl) h1
  obtain ⟨a2, len2, cap2, rfl⟩ := okWide_slice Tryd.underlying23 (hval 2 23 v2 rfl rfl)
  have k2 := h2
  have lt2 : ∀ x ∈ p2, x.block < W.heap.size := by obtain ⟨m, hm⟩ := k2; exact DataW.trod_lt m _ _ _ hm
  obtain ⟨z2, w2⟩ : ∃ zs : Nat → UInt8, BIn W a2 len2 cap2 zs ∧ len2 ≤ 1048576 := by
    obtain ⟨fuel, hf⟩ := h2
    obtain ⟨po, l, cc, zs, hcs, hb, _, hle⟩ := opened_bytesB Tryd.underlying23 Tryd.underlying5 (by kernel_rfl) (by kernel_rfl) (hsz 2 _ _ rfl rfl) hf
    injection hcs with e1 e2 e3
    subst e1 e2 e3
    exact ⟨zs, hb, by simp only at hle; omega⟩
  clear hA0 hval0
  have hg := laid0_of hL
  simp only [List.nil_append] at hW'
  refine (walk T0 m0 a0 b0 c0 e0 f0 g0 a1 a2 len2 cap2 z2 W w0 y0 w1 w2 hg).mono fun e W' ⟨he, bel⟩ => ?_
  subst he
  exact ⟨_, rfl, _, _, _, [], _, [], hW', trodAll_mk1 (shut_bool Tryd.underlying4 _), (trodAll_cons_mk (Below.trod laidOut (by kernel_rfl) (of_decide_eq_true (by kernel_rfl)) k0 bel lt0) (trodAll_cons_mk (shut_int Tryd.underlying3 w1) (trodAll_cons_mk (Below.trod laidOut (by kernel_rfl) (of_decide_eq_true (by kernel_rfl)) k2 bel lt2) trodAll_mk0))), rfl, bel.frame _, fun h => by cases h⟩

set_option maxRecDepth 100000 in
theorem reads (os : Os) {H : Type} (enc : TypeId × Value → H) : ∃ places, DataW.whole enc Tryd.prog (({ World.holding Tryd.prog os ⟨#[], #[], []⟩ with heap := (World.holding Tryd.prog os ⟨#[], #[], []⟩).heap.modify 0 (layCell (.iface 115 (.agg #[.pointer (some ⟨1, 35, none⟩)]))) } : World).forCall (fun _ _ => 0) ⟨#[], #[.agg #[.string ByteArray.empty, .slice none 0 0, .slice none 0 0], .int .i64 0, .slice none 0 0], []⟩).memory Tryd.f6.params.toList Rows.codeCutsSpec.vars false (#[.agg #[.string ByteArray.empty, .slice none 0 0, .slice none 0 0], .int .i64 0, .slice none 0 0] : Array Value).toList 8 = some ([.agg [.lit (.string []), .nil, .nil], .lit (.int .i64 0), .nil], [], places) :=
  ⟨[], by kernel_rfl⟩
set_option maxRecDepth 100000 in
theorem lifted (os : Os) (started : os.Started) (H : Type) (enc : TypeId × Value → H) (F : Stop.Interp) :
    ReturnsInHanded {} Tryd.checked os 6 .any ((Rows.OpenSpec.upto Rows.codeCutsSpec).preRow enc Tryd.prog Tryd.f6 Rows.codeCutsUptoRow.domain false Rows.codeCutsUptoRow.laid) (((Rows.OpenSpec.upto Rows.codeCutsSpec).at F).post enc Tryd.prog Tryd.f6 false true false false) := by
  obtain ⟨places, hx⟩ := reads os enc
  refine returnsInHanded_of_row (C := Tryd.checked) (s := Rows.OpenSpec.upto Rows.codeCutsSpec) own started (by kernel_rfl) Tryd.func6
    (witness_row_at (enc := enc) (C := Tryd.checked) false ({ World.holding Tryd.prog os ⟨#[], #[], []⟩ with heap := (World.holding Tryd.prog os ⟨#[], #[], []⟩).heap.modify 0 (layCell (.iface 115 (.agg #[.pointer (some ⟨1, 35, none⟩)]))) } : World) #[.agg #[.string ByteArray.empty, .slice none 0 0, .slice none 0 0], .int .i64 0, .slice none 0 0] rfl (by kernel_rfl) (by kernel_rfl) (by kernel_rfl)
      (OpenSpec.preRow_of_cond 8 hx (by kernel_rfl) (fun k hk => by cases hk; kernel_rfl) (by kernel_rfl) (laidWorld_met os _))) ?_
  intro W base args ds gs before hval hW _ hcond hsz hL _ _
  exact contract H enc W base args ds gs before hval hW (hcond _ rfl) hsz hL

theorem over : Rows.CodeCutsUptoSaid :=
  OpenClaim.holds_of_cond 6 Tryd.f6 rfl rfl rfl rfl rfl rfl rfl ⟨rfl, rfl, rfl, rfl, rfl⟩ rfl rfl rfl rfl rfl (by kernel_rfl) Tryd.func6 (by kernel_rfl)
    (of_decide_eq_true (by kernel_rfl)) (by unfold Func.isWrapper; first | (rw [if_pos (by decide +kernel)]; kernel_rfl) | (rw [if_neg (by decide +kernel)]; exact ⟨rfl, rfl⟩))
    (fun os started H enc _ F => by rw [OpenClaim.pre_eq_preRow]; exact lifted os started H enc F)

theorem proved : Rows.CodeCutsUptoCardSaid :=
  Claim7.holds_tied_plain_at .later [] [.handle] true (true, "cdf138f8001ffcf9a2d2ffa162fe33b28ec8e450d365408100392ec834357c97") true
    over (fun _ h => by cases h) (by kernel_rfl) (fun _ h => by cases h) codeCutsUpto_row_tie rfl ⟨rfl, rfl⟩ (by kernel_rfl) rfl
    (fun g fn hf hfn => by
      obtain rfl : g = 6 := Option.some.inj ((show Tryd.prog.funcNamed "troupe/troupelaw09.CodeCuts" = some 6 by kernel_rfl).symm.trans hf) |>.symm
      obtain rfl : fn = Tryd.f6 := (Option.some.inj (Tryd.func6.symm.trans hfn)).symm
      exact ⟨by kernel_rfl, fun j t ht => by
        rw [Tryd.params6] at ht
        have h3 : t = 33 ∨ t = 3 ∨ t = 23 := by
          match j, ht with
          | 0, ht => exact (Or.inl (by have := Option.some.inj ht; first | exact this.symm | simpa using this.symm))
          | 1, ht => exact (Or.inr (Or.inl (by have := Option.some.inj ht; first | exact this.symm | simpa using this.symm)))
          | 2, ht => exact (Or.inr (Or.inr (by have := Option.some.inj ht; first | exact this.symm | simpa using this.symm)))
          | j + 3, ht => simp at ht
        rcases h3 with rfl | rfl | rfl
        · exact (show Tryd.prog.wantsStandIn 33 = false by kernel_rfl)
        · exact (show Tryd.prog.wantsStandIn 3 = false by kernel_rfl)
        · exact (show Tryd.prog.wantsStandIn 23 = false by kernel_rfl)⟩)
    (by kernel_rfl)
#print axioms proved
end Go.Proofs.YtaeoohjgdkablaaDoor.codeCuts
