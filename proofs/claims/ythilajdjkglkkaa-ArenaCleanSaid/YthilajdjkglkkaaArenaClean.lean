/- The Go function ArenaClean returns true for every slice of integers, and leaves the slice as it was: a block that is taken from the arena is 0 in all its words, whatever was there before. Conditions: none beyond the statement's own. -/
import Derived.Test.YthilajdjkglkkaaRows
import Derived.Test.YthilajdjkglkkaaClean
import Derived.Test.YthilajdjkglkkaaIn
import Derived.WalkKit
import Derived.ProofKit
import Derived.OpenShut
import Derived.ShutString
import Derived.ChangeOld
import Derived.Below
namespace Go.Proofs.Ythilajdjkglkkaa.arenaClean
open Go.ChangeShapes Go.WideShapes Go.ChangeAt Go.RowKit
open Go.ChangeMaps (open_string shut_string)
set_option linter.unusedVariables false

theorem own : ownKnob Try.prog.godebug = none := by kernel_rfl
theorem laidOut : laidOutB Try.prog = true := by kernel_rfl

/-- WHAT THE WALK IS TOLD OF A SLICE OF INTEGERS THAT CAME IN: it is nil; or it leads to a row of 'cap' cells, the numbers 'zs' (the first 'len' are its elements, the rest its spare room), each fitting its kind. -/
def IsRow (k : IntKind) (w : World) (a : Option Addr) (len cap : Nat) (zs : List Int) : Prop :=
  (a = none ∧ len = 0 ∧ cap = 0 ∧ zs = []) ∨
  ∃ x, a = some x ∧ len ≤ cap ∧ cap ≤ maxLen ∧ zs.length = cap ∧ (∀ i, i < zs.length → w.cell? (x.add i) = some (.int k (zs.getD i 0))) ∧ ∀ n ∈ zs, (Lit.int k n).wf = true

/-! ### STEP 1: THE WALK: the Go text returns true, AND WRITES NOTHING THAT WAS THERE: 'Below w.heap.size w w'' (Derived/Below.lean: '.refl', '.alloc', '.drew', '.setCell' at a new block, '.trans'). Open each 'IsRow' by 'rcases' AHEAD of 'go_enter'; part every test ahead of the walk. -/
theorem walk (a0 : Option Addr) (len0 cap0 : Nat) (z0 : List Int) (w : World) (w0 : IsRow .i64 w a0 len0 cap0 z0) :
    Calls Try.prog 3 #[.slice a0 len0 cap0] w fun e w' => e = .returned (.bool true) ∧ Below w.heap.size w w' := by
  have hin := inRow_of w0
  clear w0
  obtain ⟨f, hf⟩ : ∃ f : Nat → Int, (fun k => z0.getD k 0) = f := ⟨_, rfl⟩
  rw [hf] at hin
  clear hf
  have hlen := hin.1
  go_enter Try.func3, Try.ntmps3
  go_wp2_with fail
  refine (new_ok w 500 500 (by omega) (by omega) (by omega) (by omega)).mono ?_
  rintro e w1 ⟨rfl, h1, k1, z1⟩
  have h1' := own_new k1 h1
  clear h1 z1
  go_wp2_with fail
  go_loopg [5] len0 (fun gk i wr => ∃ (k : Nat) (A : Ar), k ≤ len0 ∧ gk = len0 - k ∧ i = .int .i64 k ∧ Cl A ∧ Rep wr (Own w.heap.size wr) w.heap.size A ∧ Kp (fun _ => False) w wr)
  case atStart => exact ⟨0, _, by omega, rfl, rfl, cl_new, h1', k1⟩
  case round =>
    obtain ⟨k, A, hk, rfl, rfl, hI, hR, hK⟩ := hrel
    by_cases hlt : k < len0
    · obtain ⟨bx, off, rfl, hc, hb1, hb2⟩ := hin.at' hK k hlt
      have HI := Lib.hid hI
      clear hI
      go_wp2_with (go_at_call 10; refine (place_any _ _ 100 hb1 hb2 (by omega) (by omega)).mono ?_; rintro e w' ⟨rfl, rfl⟩)
      obtain ⟨n, hn100, hn⟩ : ∃ n : Nat, n < 100 ∧ f k % 100 = n := ⟨(f k % 100).toNat, by omega, by omega⟩
      rw [hn]
      refine (clean_alloc hR HI.out n hn100).mono ?_
      rintro e w2 ⟨q, A1, rfl, hI1, hR1, hK1⟩
      clear hn hb1 hb2 hc
      obtain ⟨hR2, hK2⟩ := own_step hK ⟨hR1, hK1⟩
      clear hR1 hK1 hR hK HI
      have HI1 := Lib.hid hI1
      clear hI1
      go_wp2_with fail
      go_loopg [9] n (fun gk kk wr2 => ∃ (j : Nat) (A : Ar), j ≤ n ∧ gk = n - j ∧ kk = .int .i64 j ∧ Hid (Cl1 A q (cls n) n j) ∧ Rep wr2 (Own w.heap.size wr2) w.heap.size A ∧ Kp (fun _ => False) w wr2)
      case atStart => exact ⟨0, A1, by omega, rfl, rfl, HI1, hR2, hK2⟩
      case round =>
        clear hR2 hK2 HI1
        obtain ⟨j, A2, hj, rfl, rfl, HI2, hR3, hK3⟩ := hrel
        obtain ⟨hblk, hte, hpl⟩ := cl_block HI2.out
        by_cases hjn : j < n
        · have hz := HI2.out.z j (Nat.le_refl _) hjn
          have hlt2 := (List.getElem?_eq_some_iff.1 hz).1
          have Hb := Lib.hid (And.intro hblk (And.intro hz hte))
          have hte2 : A2.taken.length ≤ 1048576 := by omega
          clear hblk hz hte
          go_wp2_with fail
          refine (get_ok hR3 hte2 (by omega) q n j 0 Hb.out.1 hjn Hb.out.2.1).mono ?_
          rintro e w3 ⟨rfl, rfl⟩
          go_wp2_with fail
          refine (set_ok hR3 hte2 (by omega) q n j _ Hb.out.1 hjn hlt2).mono ?_
          rintro e w4 ⟨rfl, hR4, hK4, hZ4⟩
          obtain ⟨hR5, hK5⟩ := own_same hK3 hR4 hK4
          clear hR4 hK4 hZ4 hR3 hK3
          go_wp2_with fail
          go_roundg (n - (j + 1))
          case measure => omega
          case rel => exact ⟨j + 1, _, by omega, rfl, by go_num, cl_put HI2.out, hR5, hK5⟩
        · obtain rfl : j = n := by omega
          clear hjn
          have hc2 := HI2.out.c2
          have hus := HI2.out.used
          have hpow : 2 ^ cls j ≤ 2 ^ 7 := Nat.pow_le_pow_right (by omega) hc2
          have Hf := Lib.hid (And.intro hblk (And.intro hte (And.intro hus hpow)))
          clear hblk hte hus hpow
          go_wp2_with fail
          refine (free_ok hR3 (by have := Hf.out.2.1; omega) Hf.out.2.1 q j (cls j) Hf.out.1.1 Hf.out.1.2.1 Hf.out.1.2.2 rfl (by omega) (by have := Hf.out.2.2; omega) (by have := Hf.out.2.2.1; omega) (by rw [HI2.out.frc]; simp)).mono ?_
          rintro e w3 ⟨rfl, hR4, hK4⟩
          obtain ⟨hR5, hK5⟩ := own_step hK3 ⟨hR4, hK4⟩
          clear hR4 hK4 hR3 hK3
          go_wp2_with fail
          go_roundg (len0 - (k + 1))
          case measure => omega
          case rel => exact ⟨k + 1, _, by omega, rfl, by go_num, cl_free HI2.out, hR5, hK5⟩
    · obtain rfl : k = len0 := by omega
      clear hin hI
      go_wp2_with (go_at_call 15; refine (awake_any _).mono ?_; rintro e w3 ⟨rfl, hK3⟩)
      go_ret
      exact ⟨rfl, (hK.trans' hK3).below _ (Nat.le_refl _) (fun _ h => h.elim)⟩

/-! ### THE ROW's STEP: WRITTEN OUT: LEAVE IT -/
set_option maxRecDepth 100000 in
theorem lifted (os : Os) (started : os.Started) (H : Type) (enc : TypeId × Value → H) :
    ReturnsInHanded {} Try.checked os 3 .any (Rows.arenaCleanSpec.pre6 enc Try.prog Try.f3 Rows.arenaCleanRow.domain false) (Rows.arenaCleanSpec.post enc Try.prog Try.f3 false true false false) := by
  refine returnsInHanded_of_change (C := Try.checked) own started (by kernel_rfl) Try.func3
    (ChangeSpec.witness6 (enc := enc) (C := Try.checked) false ⟨#[], #[.slice none 0 0], []⟩ 8 (by kernel_rfl) (by kernel_rfl) (by kernel_rfl) (by kernel_rfl)) ?_
  intro W base args ds gs before hval0 hW hcnd _
  have hval : ∀ (j : Nat) t v, Try.f3.params[j]? = some t → args[j]? = some v → Value.okWide Try.prog W .any base t v := hval0
  have hW' := hW
  obtain ⟨p, q, hA0, hV, rfl, hfz, hnd⟩ := hW
  have hA : DataW.TrodAll enc Try.prog W 0 (fun _ => true) true Try.f3.params.toList args.toList ds p := hA0
  rw [Try.params3] at hA hval
  obtain ⟨v0, vs0, d0, ds0, p0, q0, hargs, rfl, rfl, h0, r0⟩ := trodAll_cons hA
  obtain ⟨rfl, rfl, rfl⟩ := trodAll_nil r0
  obtain rfl : args = #[v0] := by cases args; simp_all
  obtain ⟨rfl, rfl⟩ := trodVars_none hV
  obtain ⟨a0, len0, cap0, rfl⟩ := okWide_slice Try.underlying22 (hval 0 22 v0 rfl rfl)
  have k0 := h0
  have lt0 : ∀ x ∈ p0, x.block < W.heap.size := by obtain ⟨m, hm⟩ := k0; exact DataW.trod_lt m _ _ _ hm
  obtain ⟨z0, w0⟩ : ∃ zs, IsRow .i64 W a0 len0 cap0 zs := by
    obtain ⟨fuel, hf⟩ := h0
    rcases open_ints Try.underlying22 Try.underlying3 (by kernel_rfl) hf with ⟨hcs, _⟩ | ⟨x, l, c, zs, hcs, _, hl, hm, hz, _, hcell, hwz⟩
    · simp [Value.cells] at hcs
      obtain ⟨rfl, rfl, rfl⟩ := hcs
      exact ⟨[], .inl ⟨rfl, rfl, rfl, rfl⟩⟩
    · simp [Value.cells] at hcs
      obtain ⟨rfl, rfl, rfl⟩ := hcs
      exact ⟨zs, .inr ⟨_, rfl, hl, hm, by simpa using hz, hcell, hwz⟩⟩
  clear hA0 hval0
  refine (walk a0 len0 cap0 z0 W w0).mono fun e W' ⟨he, bel⟩ => ?_
  subst he
  exact ⟨_, rfl, _, _, _, [], _, [], hW', trodAll_mk1 (shut_bool Try.underlying4 _), (trodAll_cons_mk (Below.trod laidOut (by kernel_rfl) (of_decide_eq_true (by kernel_rfl)) k0 bel lt0) trodAll_mk0), rfl, bel.frame _, fun h => by cases h⟩

theorem over : Rows.arenaCleanRow.holds Try.pinned (OpenSpec.ofChange Rows.arenaCleanSpec) :=
  OpenClaim.holds_of_wide 3 Try.f3 rfl rfl rfl rfl rfl rfl rfl ⟨rfl, rfl, rfl, rfl, rfl⟩ rfl rfl rfl rfl rfl (by kernel_rfl) Try.func3 (by kernel_rfl)
    (of_decide_eq_true (by kernel_rfl)) (by unfold Func.isWrapper; first | (rw [if_pos (by decide +kernel)]; kernel_rfl) | (rw [if_neg (by decide +kernel)]; exact ⟨rfl, rfl⟩))
    (fun os started H enc _ => lifted os started H enc)

/-- ████ THE STATEMENT ████ -/
theorem proved : Rows.ArenaCleanSaid := over
#print axioms proved
end Go.Proofs.Ythilajdjkglkkaa.arenaClean
