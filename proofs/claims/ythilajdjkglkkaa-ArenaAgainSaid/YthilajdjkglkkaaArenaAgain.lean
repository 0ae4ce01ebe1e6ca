/- The Go function ArenaAgain returns true for all numbers and every slice of integers, and leaves the slice as it was: a block that is given back is the next of its class that is taken, the one that was given back last first. Conditions: none beyond the statement's own. -/
import Derived.Test.YthilajdjkglkkaaRows
import Derived.Test.YthilajdjkglkkaaAgain
import Derived.Test.YthilajdjkglkkaaIn
import Derived.WalkKit
import Derived.ProofKit
import Derived.OpenShut
import Derived.ShutString
import Derived.ChangeOld
import Derived.Below
namespace Go.Proofs.Ythilajdjkglkkaa.arenaAgain
open Go.ChangeShapes Go.WideShapes Go.ChangeAt Go.RowKit
open Go.ChangeMaps (open_string shut_string)
set_option linter.unusedVariables false

theorem own : ownKnob Try.prog.godebug = none := by kernel_rfl
theorem laidOut : laidOutB Try.prog = true := by kernel_rfl

/-- WHAT THE WALK IS TOLD OF A SLICE OF INTEGERS THAT CAME IN: it is nil; or it leads to a row of 'cap' cells, the numbers 'zs' (the first 'len' are its elements, the rest its spare room), each fitting its kind. -/
def IsRow (k : IntKind) (w : World) (a : Option Addr) (len cap : Nat) (zs : List Int) : Prop :=
  (a = none ∧ len = 0 ∧ cap = 0 ∧ zs = []) ∨
  ∃ x, a = some x ∧ len ≤ cap ∧ cap ≤ maxLen ∧ zs.length = cap ∧ (∀ i, i < zs.length → w.cell? (x.add i) = some (.int k (zs.getD i 0))) ∧ ∀ n ∈ zs, (Lit.int k n).wf = true

/-! ### STEP 1: THE WALK: the Go text returns true, AND WRITES NOTHING THAT WAS THERE: 'Below w.heap.size w w'' (Derived/Below.lean: '.refl', '.alloc', '.drew', '.setCell' at a new block, '.trans'). Open each 'IsRow' by 'rcases' AHEAD of 'go_enter'; part every test ahead of the walk. -/
/-- the numbers by which the blocks are named -/
def nm (l : List Nat) : List Value := l.map fun (q : Nat) => Value.int .i64 ((q : Int) + 1)

set_option maxHeartbeats 1000000 in
set_option maxRecDepth 100000 in
theorem walk (a0 : Int) (a1 : Int) (a2 : Option Addr) (len2 cap2 : Nat) (z2 : List Int) (w : World) (w0 : (Lit.int .i64 a0).wf = true) (w1 : (Lit.int .i64 a1).wf = true) (w2 : IsRow .i64 w a2 len2 cap2 z2) :
    Calls Try.prog 5 #[.int .i64 a0, .int .i64 a1, .slice a2 len2 cap2] w fun e w' => e = .returned (.bool true) ∧ Below w.heap.size w w' := by
  have hin := inRow_of w2
  obtain ⟨hb1, hb2⟩ := bounds_i64 w0
  obtain ⟨hb3, hb4⟩ := bounds_i64 w1
  clear w0 w1 w2
  obtain ⟨f, hf⟩ : ∃ f : Nat → Int, (fun k => z2.getD k 0) = f := ⟨_, rfl⟩
  rw [hf] at hin
  clear hf
  have hlen := hin.1
  go_enter Try.func5, Try.ntmps5
  go_wp2_with fail
  refine (place_any _ _ 30 hb1 hb2 (by omega) (by omega)).mono ?_
  rintro e w' ⟨rfl, rfl⟩
  obtain ⟨x, hx1, hx⟩ : ∃ x : Nat, x < 30 ∧ a0 % 30 = x := ⟨(a0 % 30).toNat, by omega, by omega⟩
  rw [hx]
  clear hx hb1 hb2
  go_wp2_with fail
  refine (place_any _ _ 20 hb3 hb4 (by omega) (by omega)).mono ?_
  rintro e w' ⟨rfl, rfl⟩
  obtain ⟨k, hk1, hk⟩ : ∃ k : Nat, k < 20 ∧ a1 % 20 = k := ⟨(a1 % 20).toNat, by omega, by omega⟩
  rw [hk]
  obtain ⟨K, hK⟩ : ∃ K : Nat, 1 + k = K := ⟨_, rfl⟩
  have hKi : (1 : Int) + (k : Int) = (K : Int) := by omega
  have hK20 : K ≤ 20 := by omega
  have hK1 : 1 ≤ K := by omega
  clear hk hb3 hb4
  go_wp2_with fail
  clear hKi hK hk1
  refine (new_ok w 2000 2000 (by omega) (by omega) (by omega) (by omega)).mono ?_
  rintro e w1 ⟨rfl, h1, k1, z1⟩
  have hst := Many.start k1 h1 (Nat.le_refl _) 2 (fun _ => 3)
  have hag := Ag.new x hx1
  obtain ⟨m, hm⟩ : ∃ m, 2 ^ cls x = m := ⟨_, rfl⟩
  rw [hm] at hag
  have Hm := Lib.hid (And.intro hm hag)
  clear h1 z1 k1 hm hag
  go_wp2_with fail
  go_loopg [11, 12] (K) (fun gk v i wr => ∃ (j : Nat) (F : Nat → Prop) (A : Ar) (owns : List Nat) (rows : Nat → List Value) (sl : Nat → Value), j ≤ K ∧ gk = K - j ∧ i = .int .i64 j ∧ sl 0 = v ∧
    Hid (Ag A owns [] x m ∧ (∀ c, A.free c = []) ∧ A.places.length = owns.length * m ∧ owns.length = j ∧ rows 0 = nm owns ∧ rows 1 = [] ∧ sl 1 = .slice none 0 0) ∧ Many w wr F w.heap.size A 2 (fun _ => 3) rows sl)
  case atStart => exact ⟨0, _, _, [], fun _ => [], fun _ => .slice none 0 0, by omega, rfl, rfl, rfl, ⟨Hm.out.2, fun _ => rfl, by simp [Ar.new], rfl, rfl, rfl, rfl⟩, hst⟩
  case round =>
    clear hst
    obtain ⟨j, F, A, owns, rows, sl, hj, rfl, rfl, rfl, HA, hM⟩ := hrel
    by_cases hlt : j < K
    · go_wp2_with fail
      refine (alloc_any hM.rep HA.out.1.inv x (by omega)).mono ?_
      rintro e w2 (⟨own, A1, hq', hc20, hf, rfl, hR, hK⟩ | ⟨hwhy, _⟩)
      · have hl20 : owns.length < 20 := by rw [HA.out.2.2.2.1]; omega
        obtain ⟨g0, g1, g2, g3⟩ := HA.out.1.add HA.out.2.1 HA.out.2.2.1 hl20 hf
        clear g0
        have hM2 := hM.step hR hK
        obtain ⟨hoA, hnA, hone, hbase, Hc⟩ := hM2.app 0 (by omega) (.int .i64 ((own : Int) + 1)) rfl (by rw [HA.out.2.2.2.2.1]; simp [nm]; omega)
        have HA2 := Lib.hid (And.intro g1 (And.intro g2 g3))
        clear g1 g2 g3 hR hK hf hq' hl20
        obtain ⟨i0, hi, hz0, hz1, hz2⟩ := info_parts Try.info3
        go_wp2_with (at_builtin; refine wpList_append_lies _ rfl _ _ 22 rfl w.heap.size 3 i0 (.int .i64 0) 1 8 Try.underlying22 hi hz0 hz1 hz2 rfl (by omega) (sl 0) (rows 0).length _ rfl (hoA _) ⟨w2.heap.size, 0, none⟩ 1 1 [.int .i64 (own + 1)] rfl rfl hnA hone (by omega) Hc.out.1 Hc.out.2 (hbase _) (w2.heap.size + 1) (by simp) ?_; intro g1 cap1 w3 hown hgrow hat hlt3)
        have hM3 := hM2.push 0 (by omega) 0 rfl hown hgrow hat
        go_roundg (K - (j + 1))
        case measure => omega
        case rel =>
          refine ⟨j + 1, _, _, owns ++ [own], _, _, by omega, rfl, by go_num, upd_same _ _ _, ⟨HA2.out.1, HA2.out.2.1, HA2.out.2.2, by simp [HA.out.2.2.2.1], ?_, ?_, ?_⟩, hM3⟩
          · rw [upd_same, HA.out.2.2.2.2.1]; simp [nm]
          · rw [upd_other _ _ (by omega)]; exact HA.out.2.2.2.2.2.1
          · rw [upd_other _ _ (by omega)]; exact HA.out.2.2.2.2.2.2
      · exact absurd hwhy (HA.out.1.never (.inl (by rw [HA.out.2.2.2.1]; omega)) (.inr HA.out.2.2.1))
    · obtain rfl : j = K := by omega
      obtain ⟨hA, _, _, hol, hr0, hr1, hs1⟩ := HA.out
      have hjp : 0 < j := hK1
      have hr0l : (rows 0).length = j := by rw [hr0]; simp [nm, hol]
      obtain ⟨gl, lcap, hg, hgc⟩ := hM.get 0 (by omega) 0 ((rows 0)[0]'(by omega)) (List.getElem?_eq_getElem (by omega))
      rw [hr0l] at hg
      have Hg := Lib.hid (And.intro hA (And.intro hol (And.intro hr0 (And.intro hr1 (And.intro hs1 hg)))))
      clear hgc
      simp only [hg]
      clear hA hol hr0 hr1 hs1 hr0l hg HA
      go_wp2_with fail
      go_loopg [15, 16] len2 (fun gk v i wr => ∃ (t : Nat) (F : Nat → Prop) (A : Ar) (fr : List Nat) (rows : Nat → List Value) (sl : Nat → Value), t ≤ len2 ∧ gk = len2 - t ∧ i = .int .i64 t ∧ sl 1 = v ∧
        Hid (Ag A owns fr x m ∧ rows 0 = nm owns ∧ rows 1 = nm fr ∧ sl 0 = .slice (some ⟨gl, 0, none⟩) j lcap) ∧ Many w wr F w.heap.size A 2 (fun _ => 3) rows sl)
      case atStart => exact ⟨0, _, _, [], _, _, by omega, rfl, rfl, Hg.out.2.2.2.2.1, ⟨Hg.out.1, Hg.out.2.2.1, Hg.out.2.2.2.1, Hg.out.2.2.2.2.2⟩, hM⟩
      case round =>
        clear hM
        obtain ⟨t, F2, A2, fr, rows2, sl2, ht, rfl, rfl, rfl, HA, hM⟩ := hrel
        by_cases hlt2 : t < len2
        · obtain ⟨bx, off, rfl, hc, hb1, hb2⟩ := hin.at' hM.kp t hlt2
          obtain ⟨d, hd1, hd⟩ : ∃ d : Nat, d < j ∧ f t % (j : Int) = d := ⟨(f t % (j : Int)).toNat, by have := Int.emod_lt_of_pos (f t) (show (0 : Int) < j by omega); have := Int.emod_nonneg (f t) (show (j : Int) ≠ 0 by omega); omega, by have := Int.emod_nonneg (f t) (show (j : Int) ≠ 0 by omega); omega⟩
          have hol := Hg.out.2.1
          obtain ⟨own, how⟩ : ∃ own, owns[d]? = some own := ⟨owns[d]'(by omega), List.getElem?_eq_getElem (by omega)⟩
          have hrd : (rows2 0)[d]? = some (.int .i64 ((own : Int) + 1)) := by rw [HA.out.2.1, nm, List.getElem?_map, how]; rfl
          obtain ⟨gl2, lcap2, hg2, hcd⟩ := hM.get 0 (by omega) d _ hrd
          rw [HA.out.2.2.2] at hg2
          injection hg2 with e1 e2 e3
          injection e1 with e1
          injection e1 with e1
          subst e1
          have hmem : own ∈ owns := List.mem_of_getElem? how
          have Hd := Lib.hid (And.intro hd hmem)
          clear hd hol how hrd e2 e3
          have hdi : (d : Int) < j := by omega
          go_wp2_with (go_at_call 10; refine (place_any _ _ (j : Int) hb1 hb2 (by omega) (by omega)).mono ?_; rintro e w' ⟨rfl, rfl⟩; rw [Hd.out.1])
          by_cases hfr : own ∈ fr
          · have hh := HA.out.1.twice hfr
            have htl : A2.taken.length ≤ 1048576 := by have h1 := HA.out.1.inv.len; have h2 := HA.out.1.inv.top; have h3 := HA.out.1.inv.size; omega
            refine (free_bad hM.rep htl _ hh).mono ?_
            rintro e w3 ⟨v3, rfl, ⟨g3, _, rfl, _⟩, hR, _, hK⟩
            have hM2 := hM.bad hR hK
            clear hR hK hM hc hcd hh hfr
            go_wp2_with fail
            go_roundg (len2 - (t + 1))
            case measure => omega
            case rel => exact ⟨t + 1, _, _, fr, _, _, by omega, rfl, by go_num, rfl, HA, hM2⟩
          · obtain ⟨htk, hA2⟩ := HA.out.1.free Hd.out.2 hfr
            refine (free_any hM.rep HA.out.1.inv own x htk).mono ?_
            rintro e w3 ⟨rfl, hR, hK⟩
            have hM2 := hM.step hR hK
            have hfl := HA.out.1.frlen
            have hol2 := HA.out.1.len
            obtain ⟨hoA, hnA, hone, hbase, Hc⟩ := hM2.app 1 (by omega) (.int .i64 ((own : Int) + 1)) rfl (by rw [HA.out.2.2.1]; simp [nm]; omega)
            have HA2 := Lib.hid hA2
            clear hR hK hM hc hcd hfr htk hA2 hfl hol2
            obtain ⟨i0, hi, hz0, hz1, hz2⟩ := info_parts Try.info3
            go_wp2_with (at_builtin; refine wpList_append_lies _ rfl _ _ 22 rfl w.heap.size 3 i0 (.int .i64 0) 1 8 Try.underlying22 hi hz0 hz1 hz2 rfl (by omega) (sl2 1) (rows2 1).length _ rfl (hoA _) ⟨w3.heap.size, 0, none⟩ 1 1 [.int .i64 (own + 1)] rfl rfl hnA hone (by omega) Hc.out.1 Hc.out.2 (hbase _) (w3.heap.size + 1) (by simp) ?_; intro g1 cap1 w4 hown hgrow hat hlt3)
            have hM3 := hM2.push 1 (by omega) 0 rfl hown hgrow hat
            go_roundg (len2 - (t + 1))
            case measure => omega
            case rel =>
              refine ⟨t + 1, _, _, fr ++ [own], _, _, by omega, rfl, by go_num, upd_same _ _ _, ⟨HA2.out, ?_, ?_, ?_⟩, hM3⟩
              · rw [upd_other _ _ (by omega)]; exact HA.out.2.1
              · rw [upd_same, HA.out.2.2.1]; simp [nm]
              · rw [upd_other _ _ (by omega)]; exact HA.out.2.2.2
        · obtain rfl : t = len2 := by omega
          clear hin hlt2
          obtain ⟨pf, fcap, hfv⟩ := hM.form 1 (by omega)
          have hfl : (rows2 1).length = fr.length := by rw [HA.out.2.2.1]; simp [nm]
          have hfl20 : fr.length ≤ 20 := by have h1 := HA.out.1.frlen; have h2 := HA.out.1.len; omega
          rw [hfl] at hfv
          have Hf := Lib.hid hfv
          simp only [hfv]
          clear hfv hfl
          go_wp2_with fail
          go_loopg [18] fr.length (fun gk i wr => ∃ (F : Nat → Prop) (A : Ar) (s : Nat), s ≤ fr.length ∧ s = gk ∧ i = .int .i64 ((s : Int) - 1) ∧ Hid (Ag A owns (fr.take s) x m) ∧ Many w wr F w.heap.size A 2 (fun _ => 3) rows2 sl2)
          case atStart => exact ⟨_, _, fr.length, Nat.le_refl _, rfl, rfl, by rw [List.take_length]; exact HA.out.1, hM⟩
          case round =>
            clear hM
            obtain ⟨F3, A3, s, hs, rfl, rfl, HA3, hM⟩ := hrel
            by_cases hs0 : 0 < s
            · obtain ⟨r, rfl⟩ : ∃ r, s = r + 1 := ⟨s - 1, by omega⟩
              obtain ⟨y, hy⟩ : ∃ y, fr[r]? = some y := ⟨fr[r]'(by omega), List.getElem?_eq_getElem (by omega)⟩
              have htake : fr.take (r + 1) = fr.take r ++ [y] := by rw [List.take_add_one, hy]; rfl
              have hA3 := HA3.out
              rw [htake] at hA3
              have hrd : (rows2 1)[r]? = some (.int .i64 ((y : Int) + 1)) := by rw [HA.out.2.2.1, nm, List.getElem?_map, hy]; rfl
              have HA4 := Lib.hid (And.intro hA3 hrd)
              clear hy htake hA3 hrd
              go_wp2_with fail
              refine (alloc_any hM.rep HA4.out.1.inv x (by omega)).mono ?_
              rintro e w3 (⟨own, A5, hq', hc20, hf, rfl, hR, hK⟩ | ⟨hwhy, _⟩)
              · obtain ⟨hoy, hA5⟩ := HA4.out.1.back hf
                have hM2 := hM.step hR hK
                obtain ⟨gf, fcap2, hg2, hcd⟩ := hM2.get 1 (by omega) r _ HA4.out.2
                rw [Hf.out] at hg2
                injection hg2 with e1 e2 e3
                subst e1
                subst hoy
                have HA5 := Lib.hid hA5
                clear hA5 hR hK hM hf e2 e3 hq'
                go_wp2_with fail
                go_roundg r
                case measure => omega
                case rel => exact ⟨_, _, r, by omega, rfl, by go_num, HA5.out, hM2⟩
              · exact absurd hwhy (HA4.out.1.never (.inr (by simp)) (.inl (by simp)))
            · obtain rfl : s = 0 := by omega
              have hA3 := HA3.out
              have htl : A3.taken.length ≤ 1048576 := by have h1 := hA3.inv.len; have h2 := hA3.inv.top; have h3 := hA3.inv.size; omega
              have hnl : A3.names.length = j := by
                rw [← Hg.out.2.1]
                refine names_len hA3.inv owns hA3.nd (fun q => ⟨fun ⟨n, hn⟩ => ((hA3.tk q n).1 hn).2.1, fun hq => ⟨x, (hA3.tk q x).2 ⟨rfl, hq, by simp⟩⟩⟩)
              have Hnl := Lib.hid hnl
              clear hnl hA3
              go_wp2_with fail
              refine (blocks_any hM.rep htl).mono ?_
              rintro e w4 ⟨v4, rfl, hrow4, hK4⟩
              rw [Hnl.out] at hrow4
              obtain ⟨po4, cap4, rfl⟩ : ∃ po cap, v4 = .slice po j cap := by
                rcases hrow4.2 with ⟨e, h0⟩ | ⟨g, cap, _, e, _⟩
                · omega
                · exact ⟨_, _, e⟩
              clear hrow4
              go_wp2_with (go_at_call 15; refine (awake_any _).mono ?_; rintro e w5 ⟨rfl, hK5⟩)
              go_ret
              exact ⟨rfl, ((hM.kp.trans' hK4).trans' hK5).below _ (Nat.le_refl _) (fun _ h => h.elim)⟩

/-! ### THE ROW's STEP: WRITTEN OUT: LEAVE IT -/
set_option maxRecDepth 100000 in
theorem lifted (os : Os) (started : os.Started) (H : Type) (enc : TypeId × Value → H) :
    ReturnsInHanded {} Try.checked os 5 .any (Rows.arenaAgainSpec.pre6 enc Try.prog Try.f5 Rows.arenaAgainRow.domain false) (Rows.arenaAgainSpec.post enc Try.prog Try.f5 false true false false) := by
  refine returnsInHanded_of_change (C := Try.checked) own started (by kernel_rfl) Try.func5
    (ChangeSpec.witness6 (enc := enc) (C := Try.checked) false ⟨#[], #[.int .i64 0, .int .i64 0, .slice none 0 0], []⟩ 8 (by kernel_rfl) (by kernel_rfl) (by kernel_rfl) (by kernel_rfl)) ?_
  intro W base args ds gs before hval0 hW hcnd _
  have hval : ∀ (j : Nat) t v, Try.f5.params[j]? = some t → args[j]? = some v → Value.okWide Try.prog W .any base t v := hval0
  have hW' := hW
  obtain ⟨p, q, hA0, hV, rfl, hfz, hnd⟩ := hW
  have hA : DataW.TrodAll enc Try.prog W 0 (fun _ => true) true Try.f5.params.toList args.toList ds p := hA0
  rw [Try.params5] at hA hval
  obtain ⟨v0, vs0, d0, ds0, p0, q0, hargs, rfl, rfl, h0, r0⟩ := trodAll_cons hA
  obtain ⟨v1, vs1, d1, ds1, p1, q1, rfl, rfl, rfl, h1, r1⟩ := trodAll_cons r0
  obtain ⟨v2, vs2, d2, ds2, p2, q2, rfl, rfl, rfl, h2, r2⟩ := trodAll_cons r1
  obtain ⟨rfl, rfl, rfl⟩ := trodAll_nil r2
  obtain rfl : args = #[v0, v1, v2] := by cases args; simp_all
  obtain ⟨rfl, rfl⟩ := trodVars_none hV
  obtain ⟨a0, rfl, rfl, rfl, w0⟩ := open_int Try.underlying3 (hval 0 3 v0 rfl rfl) h0
  obtain ⟨a1, rfl, rfl, rfl, w1⟩ := open_int Try.underlying3 (hval 1 3 v1 rfl rfl) h1
  obtain ⟨a2, len2, cap2, rfl⟩ := okWide_slice Try.underlying22 (hval 2 22 v2 rfl rfl)
  have k2 := h2
  have lt2 : ∀ x ∈ p2, x.block < W.heap.size := by obtain ⟨m, hm⟩ := k2; exact DataW.trod_lt m _ _ _ hm
  obtain ⟨z2, w2⟩ : ∃ zs, IsRow .i64 W a2 len2 cap2 zs := by
    obtain ⟨fuel, hf⟩ := h2
    rcases open_ints Try.underlying22 Try.underlying3 (by kernel_rfl) hf with ⟨hcs, _⟩ | ⟨x, l, c, zs, hcs, _, hl, hm, hz, _, hcell, hwz⟩
    · simp [Value.cells] at hcs
      obtain ⟨rfl, rfl, rfl⟩ := hcs
      exact ⟨[], .inl ⟨rfl, rfl, rfl, rfl⟩⟩
    · simp [Value.cells] at hcs
      obtain ⟨rfl, rfl, rfl⟩ := hcs
      exact ⟨zs, .inr ⟨_, rfl, hl, hm, by simpa using hz, hcell, hwz⟩⟩
  clear hA0 hval0
  refine (walk a0 a1 a2 len2 cap2 z2 W w0 w1 w2).mono fun e W' ⟨he, bel⟩ => ?_
  subst he
  exact ⟨_, rfl, _, _, _, [], _, [], hW', trodAll_mk1 (shut_bool Try.underlying4 _), (trodAll_cons_mk (shut_int Try.underlying3 w0) (trodAll_cons_mk (shut_int Try.underlying3 w1) (trodAll_cons_mk (Below.trod laidOut (by kernel_rfl) (of_decide_eq_true (by kernel_rfl)) k2 bel lt2) trodAll_mk0))), rfl, bel.frame _, fun h => by cases h⟩

theorem over : Rows.arenaAgainRow.holds Try.pinned (OpenSpec.ofChange Rows.arenaAgainSpec) :=
  OpenClaim.holds_of_wide 5 Try.f5 rfl rfl rfl rfl rfl rfl rfl ⟨rfl, rfl, rfl, rfl, rfl⟩ rfl rfl rfl rfl rfl (by kernel_rfl) Try.func5 (by kernel_rfl)
    (of_decide_eq_true (by kernel_rfl)) (by unfold Func.isWrapper; first | (rw [if_pos (by decide +kernel)]; kernel_rfl) | (rw [if_neg (by decide +kernel)]; exact ⟨rfl, rfl⟩))
    (fun os started H enc _ => lifted os started H enc)

/-- ████ THE STATEMENT ████ -/
theorem proved : Rows.ArenaAgainSaid := over
#print axioms proved
end Go.Proofs.Ythilajdjkglkkaa.arenaAgain
