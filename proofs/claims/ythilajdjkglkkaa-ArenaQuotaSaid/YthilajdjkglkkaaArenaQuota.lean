/- The Go function ArenaQuota returns true for every number and every slice of integers, and leaves the slice as it was: Used is the sum of the classes of what is taken, never above the quota, and all that is given back is gone. Conditions: none beyond the statement's own. -/
import Derived.Test.YthilajdjkglkkaaRows
import Derived.Test.YthilajdjkglkkaaNames
import Derived.Test.YthilajdjkglkkaaIn
import Derived.WalkKit
import Derived.ProofKit
import Derived.OpenShut
import Derived.ShutString
import Derived.ChangeOld
import Derived.Below
namespace Go.Proofs.Ythilajdjkglkkaa.arenaQuota
open Go.ChangeShapes Go.WideShapes Go.ChangeAt Go.RowKit
open Go.ChangeMaps (open_string shut_string)
set_option linter.unusedVariables false

theorem own : ownKnob Try.prog.godebug = none := by kernel_rfl
theorem laidOut : laidOutB Try.prog = true := by kernel_rfl

/-- WHAT THE WALK IS TOLD OF A SLICE OF INTEGERS THAT CAME IN: it is nil; or it leads to a row of 'cap' cells, the numbers 'zs' (the first 'len' are its elements, the rest its spare room), each fitting its kind. -/
def IsRow (k : IntKind) (w : World) (a : Option Addr) (len cap : Nat) (zs : List Int) : Prop :=
  (a = none ∧ len = 0 ∧ cap = 0 ∧ zs = []) ∨
  ∃ x, a = some x ∧ len ≤ cap ∧ cap ≤ maxLen ∧ zs.length = cap ∧ (∀ i, i < zs.length → w.cell? (x.add i) = some (.int k (zs.getD i 0))) ∧ ∀ n ∈ zs, (Lit.int k n).wf = true

/-! ### STEP 1: THE WALK: the Go text returns true, AND WRITES NOTHING THAT WAS THERE: 'Below w.heap.size w w'' (Derived/Below.lean: '.refl', '.alloc', '.drew', '.setCell' at a new block, '.trans'). Open each 'IsRow' by 'rcases' AHEAD of 'go_enter'; part every test ahead of the walk. -/
/-- c runs through the powers of two, up to the block's class -/
theorem pow_step (n j : Nat) (hj : 1 ≤ j) (h : 2 ^ j < n + 1) (hn : n ≤ 1048576) : j + 1 ≤ cls n := by
  have hs := cls_spec n hn
  rcases Nat.lt_or_ge j (cls n) with h1 | h1
  · exact h1
  · have := Nat.pow_le_pow_right (n := 2) (by omega) h1
    omega
theorem pow_end (n j : Nat) (hj : 1 ≤ j) (hc : j ≤ cls n) (h : ¬ 2 ^ j < n + 1) (hn : n ≤ 1048576) : j = cls n := by
  have hs := (cls_spec n hn).2.2.2 j hj (by omega)
  omega

set_option maxHeartbeats 1000000 in
set_option maxRecDepth 100000 in
theorem walk (a0 : Int) (a1 : Option Addr) (len1 cap1 : Nat) (z1 : List Int) (w : World) (w0 : (Lit.int .i64 a0).wf = true) (w1 : IsRow .i64 w a1 len1 cap1 z1) :
    Calls Try.prog 4 #[.int .i64 a0, .slice a1 len1 cap1] w fun e w' => e = .returned (.bool true) ∧ Below w.heap.size w w' := by
  have hin := inRow_of w1
  obtain ⟨hb1, hb2⟩ := bounds_i64 w0
  clear w0 w1
  obtain ⟨f, hf⟩ : ∃ f : Nat → Int, (fun k => z1.getD k 0) = f := ⟨_, rfl⟩
  rw [hf] at hin
  clear hf
  have hlen := hin.1
  go_enter Try.func4, Try.ntmps4
  go_wp2_with fail
  refine (place_any _ _ 1000 hb1 hb2 (by omega) (by omega)).mono ?_
  rintro e w' ⟨rfl, rfl⟩
  obtain ⟨q, hq1, hq⟩ : ∃ q : Nat, q < 1000 ∧ a0 % 1000 = q := ⟨(a0 % 1000).toNat, by omega, by omega⟩
  rw [hq]
  clear hq hb1 hb2
  go_wp2_with fail
  refine (new_ok w 2000 (1 + q) (by omega) (by omega) (by omega) (by omega)).mono ?_
  rintro e w1 ⟨rfl, h1, k1, z1⟩
  have hst := Held.start k1 h1 (Nat.le_refl _)
  have htk := Lib.hid (Took.new 2000 (1 + q) (by omega) (by omega))
  clear h1 z1 k1
  go_wp2_with fail
  go_loopg [8, 9, 10] len1 (fun gk us nm i wr => ∃ (k : Nat) (F : Nat → Prop) (A : Ar) (ns : List (Nat × Nat)) (v : Value), k ≤ len1 ∧ gk = len1 - k ∧ i = .int .i64 k ∧ us = .int .i64 A.used ∧ v = nm ∧ Hid (Took A ns ∧ A.size = 2000 ∧ A.quota = 1 + q) ∧ Held w wr F w.heap.size A (ownNames ns) v)
  case atStart => exact ⟨0, _, _, [], _, by omega, rfl, rfl, rfl, rfl, ⟨htk.out, rfl, rfl⟩, hst⟩
  case round =>
    clear hst htk
    obtain ⟨k, F, A, ns, v, hk, rfl, rfl, rfl, rfl, HT, hH⟩ := hrel
    by_cases hlt : k < len1
    · obtain ⟨bx, off, rfl, hc, hb1, hb2⟩ := hin.at' hH.kp k hlt
      go_wp2_with (go_at_call 10; refine (place_any _ _ 70 hb1 hb2 (by omega) (by omega)).mono ?_; rintro e w' ⟨rfl, rfl⟩)
      obtain ⟨n, hn70, hn⟩ : ∃ n : Nat, n < 70 ∧ f k % 70 = n := ⟨(f k % 70).toNat, by omega, by omega⟩
      rw [hn]
      clear hn hb1 hb2 hc
      obtain ⟨w2, hw2⟩ : ∃ w2, wr = w2 := ⟨_, rfl⟩
      subst hw2
      go_loopg [12] (cls n - 1) (fun gk c wr2 => ∃ (j m : Nat), 1 ≤ j ∧ j ≤ cls n ∧ gk = cls n - j ∧ c = .int .i64 m ∧ Hid (2 ^ j = m) ∧ wr = wr2)
      case atStart => exact ⟨1, 2, by omega, (cls_spec n (by omega)).1, rfl, rfl, rfl, rfl⟩
      case round =>
        obtain ⟨j, m, hj1, hj2, rfl, rfl, Hm, rfl⟩ := hrel
        by_cases hmn : m < n + 1
        · have hjs := pow_step n j hj1 (by rw [Hm.out]; exact hmn) (by omega)
          go_wp2_with fail
          go_roundg (cls n - (j + 1))
          case measure => omega
          case rel => exact ⟨j + 1, 2 * m, by omega, hjs, rfl, by go_num, show 2 ^ (j + 1) = 2 * m by rw [Nat.pow_succ, Hm.out]; omega, rfl⟩
        · obtain rfl := pow_end n j hj1 hj2 (by rw [Hm.out]; exact hmn) (by omega)
          go_wp2_with fail
          have hm128 : m ≤ 128 := by
            have h7 := (cls_spec n (by omega)).2.2.2 7 (by omega) (by omega)
            have := Nat.pow_le_pow_right (n := 2) (by omega) h7
            rw [Hm.out] at this
            exact this
          refine (alloc_any hH.rep HT.out.1.inv n (by omega)).mono ?_
          rintro e w2 (⟨own, A1, hq', hc20, hf, rfl, hR, hK⟩ | ⟨hwhy, v2, rfl, ⟨g, hg1, rfl, hg2⟩, hR, _, hK⟩)
          · have hat := alloc_tk HT.out.1.inv (by omega) hc20 hq' hf
            have hadd := HT.out.1.add (by omega) hc20 hq' hf
            have hH2 := hH.step hR hK
            have hqu := HT.out.2.2
            have hus := hat.2.2.2.1
            rw [Hm.out] at hq' hus
            rw [hqu] at hq'
            have Hfin := Lib.hid (And.intro hadd (And.intro hus (And.intro (hat.2.2.2.2.2.trans HT.out.2.1) (hat.2.2.2.2.1.trans hqu))))
            have hlen2 : (ownNames ns).length ≤ 1048576 := by have := HT.out.1.len; simpa [ownNames] using this
            clear hat hadd hus hqu hR hK hf hH
            have hle : (A.used : Int) + m ≤ 1 + q := by omega
            have hoA : ∀ o, (w2.alloc o).ownsRow w.heap.size 3 1 v (ownNames ns).length ((ownNames ns).map (Value.int .i64)) := fun o => hH2.row.alloc o
            have hnA : ∀ j u, [Value.int .i64 (own + 1)][j]? = some u → (w2.alloc (.cells #[.int .i64 (own + 1)] 3)).cell? ((⟨w2.heap.size, 0, none⟩ : Addr).add j) = some u :=
              World.news_of_block (cs := #[.int .i64 (own + 1)]) (heap_alloc_new w2 _)
            have hone : ∀ u ∈ [Value.int .i64 (own + 1)], u.oneCell' = true := by intro u hu; simp at hu; subst hu; rfl
            have hcap1 : (ownNames ns).length + 1 ≤ maxLen := by unfold maxLen; omega
            have hcap2 : ((ownNames ns).length + 1) * 8 ≤ 140737488355328 := by omega
            have hbase : ∀ o, w.heap.size ≤ (w2.alloc o).heap.size := fun o => by have := hH2.kp.size; simp; omega
            have Hc := Lib.hid (And.intro hcap1 hcap2)
            clear hcap1 hcap2 hlen2
            obtain ⟨i0, hi, hz0, hz1, hz2⟩ := info_parts Try.info3
            go_wp2_with (at_builtin; refine wpList_append_lies _ rfl _ _ 22 rfl w.heap.size 3 i0 (.int .i64 0) 1 8 Try.underlying22 hi hz0 hz1 hz2 rfl (by omega) v (ownNames ns).length _ rfl (hoA _) ⟨w2.heap.size, 0, none⟩ 1 1 [.int .i64 (own + 1)] rfl rfl hnA hone (by omega) Hc.out.1 Hc.out.2 (hbase _) (w2.heap.size + 1) (by simp) ?_; intro g1 cap1 w3 hown hgrow hat hlt3)
            have hH3 := hH2.push 0 hown hgrow hat
            have hU : (((A1.took own (cls n) n).used : Nat) : Int) = (A.used : Int) + m := by have := Hfin.out.2.1; omega
            refine (used_any hH3.rep).mono ?_
            rintro e w4 ⟨rfl, rfl⟩
            rw [hU]
            have HU := Lib.hid hU
            clear hU hown hgrow hat hlt3 hoA hnA hone hbase
            go_wp2_with fail
            go_roundg (len1 - (k + 1))
            case measure => omega
            case rel =>
              have hH4 := hH3
              rw [show ownNames ns ++ [((own : Nat) : Int) + 1] = ownNames (ns ++ [(own, n)]) from by simp [ownNames]] at hH4
              exact ⟨k + 1, _, _, ns ++ [(own, n)], _, by omega, rfl, by go_num, by rw [HU.out], rfl, ⟨Hfin.out.1, Hfin.out.2.2.1, Hfin.out.2.2.2⟩, hH4⟩
          · have hH2 := hH.bad hR hK
            have hqu := HT.out.2.2
            have hsz := HT.out.2.1
            rw [Hm.out, hqu] at hwhy
            clear hR hH hK hg2
            by_cases hle : (A.used : Int) + m ≤ 1 + q
            · have hno : A.size < A.places.length + 2 ^ cls n := by
                rcases hwhy with h | h
                · omega
                · exact h.2.1
              rw [hsz, Hm.out] at hno
              have htop := HT.out.1.inv.top
              rw [hsz] at htop
              have hno' : ¬ ((A.places.length : Int) + m ≤ 2000) := by omega
              clear hwhy hqu hsz
              have huq : (A.used : Int) ≤ 1 + q := by have := HT.out.1.inv.uq; have := HT.out.2.2; omega
              go_wp2_with fail
              refine (top_any hH2.rep).mono ?_
              rintro e w4 ⟨rfl, rfl⟩
              go_wp2_with (go_at_call 17; refine (used_any hH2.rep).mono ?_; rintro e w4 ⟨rfl, rfl⟩)
              go_roundg (len1 - (k + 1))
              case measure => omega
              case rel => exact ⟨k + 1, _, _, ns, _, by omega, rfl, by go_num, rfl, rfl, HT, hH2⟩
            · clear hwhy hqu hsz
              have huq : (A.used : Int) ≤ 1 + q := by have := HT.out.1.inv.uq; have := HT.out.2.2; omega
              go_wp2_with (go_at_call 17; refine (used_any hH2.rep).mono ?_; rintro e w4 ⟨rfl, rfl⟩)
              go_roundg (len1 - (k + 1))
              case measure => omega
              case rel => exact ⟨k + 1, _, _, ns, _, by omega, rfl, by go_num, rfl, rfl, HT, hH2⟩
    · obtain rfl : k = len1 := by omega
      clear hlt hin
      obtain ⟨po, vcap, rfl⟩ := hH.form
      have hnl : (ownNames ns).length = ns.length := by simp [ownNames]
      have hns : ns.length ≤ 1048576 := HT.out.1.len
      rw [hnl] at hH
      have Hnl := Lib.hid hnl
      clear hnl
      simp only [Hnl.out]
      go_wp2_with fail
      go_loopg [15] ns.length (fun gk i wr => ∃ (j : Nat) (F : Nat → Prop) (A : Ar), j ≤ ns.length ∧ gk = ns.length - j ∧ i = .int .i64 j ∧ Hid (Took A (ns.drop j)) ∧ Held w wr F w.heap.size A (ownNames ns) (.slice po ns.length vcap))
      case atStart => exact ⟨0, _, _, by omega, rfl, rfl, HT.out.1, hH⟩
      case round =>
        clear hH HT
        obtain ⟨j, F2, A2, hj, rfl, rfl, HT, hH⟩ := hrel
        by_cases hlt : j < ns.length
        · obtain ⟨q2, n2, hdr, hnm⟩ := drop_names ns j hlt
          have hT2 := HT.out
          rw [hdr] at hT2
          obtain ⟨htk, hT3⟩ := hT2.drop
          obtain ⟨g, gcap, hg, hc⟩ := hH.get j (by rw [Hnl.out]; exact hlt)
          rw [Hnl.out] at hg
          injection hg with hg1 hg2 hg3
          subst hg1
          rw [hnm] at hc
          have HF := Lib.hid (And.intro htk hT3)
          clear hdr hT2 htk hT3 hnm hg2 hg3
          go_wp2_with fail
          refine (free_any hH.rep HT.out.inv q2 n2 HF.out.1).mono ?_
          rintro e w3 ⟨rfl, hR, hK⟩
          have hH3 := hH.step hR hK
          clear hR hK hH hc
          go_wp2_with fail
          go_roundg (ns.length - (j + 1))
          case measure => omega
          case rel => exact ⟨j + 1, _, _, by omega, rfl, by go_num, HF.out.2, hH3⟩
        · obtain rfl : j = ns.length := by omega
          have hT := HT.out
          rw [List.drop_length] at hT
          obtain ⟨hu0, hn0⟩ := hT.none
          have hlt2 : A2.taken.length ≤ 1048576 := by have h1 := hT.inv.len; have h2 := hT.inv.top; have h3 := hT.inv.size; omega
          have H0 := Lib.hid (And.intro hu0 hn0)
          clear hu0 hn0 hT
          go_wp2_with fail
          refine (used_any hH.rep).mono ?_
          rintro e w4 ⟨rfl, rfl⟩
          rw [H0.out.1]
          go_wp2_with fail
          refine (blocks_any hH.rep hlt2).mono ?_
          rintro e w4 ⟨v4, rfl, hrow4, hK4⟩
          rw [H0.out.2] at hrow4
          obtain ⟨po4, cap4, rfl⟩ : ∃ po cap, v4 = .slice po 0 cap := by
            rcases hrow4.2 with ⟨e, _⟩ | ⟨g, cap, _, e, _⟩
            · exact ⟨_, _, e⟩
            · exact ⟨_, _, e⟩
          clear hrow4
          go_wp2_with (go_at_call 15; refine (awake_any _).mono ?_; rintro e w5 ⟨rfl, hK5⟩)
          go_ret
          exact ⟨rfl, ((hH.kp.trans' hK4).trans' hK5).below _ (Nat.le_refl _) (fun _ h => h.elim)⟩

/-! ### THE ROW's STEP: WRITTEN OUT: LEAVE IT -/
set_option maxRecDepth 100000 in
theorem lifted (os : Os) (started : os.Started) (H : Type) (enc : TypeId × Value → H) :
    ReturnsInHanded {} Try.checked os 4 .any (Rows.arenaQuotaSpec.pre6 enc Try.prog Try.f4 Rows.arenaQuotaRow.domain false) (Rows.arenaQuotaSpec.post enc Try.prog Try.f4 false true false false) := by
  refine returnsInHanded_of_change (C := Try.checked) own started (by kernel_rfl) Try.func4
    (ChangeSpec.witness6 (enc := enc) (C := Try.checked) false ⟨#[], #[.int .i64 0, .slice none 0 0], []⟩ 8 (by kernel_rfl) (by kernel_rfl) (by kernel_rfl) (by kernel_rfl)) ?_
  intro W base args ds gs before hval0 hW hcnd _
  have hval : ∀ (j : Nat) t v, Try.f4.params[j]? = some t → args[j]? = some v → Value.okWide Try.prog W .any base t v := hval0
  have hW' := hW
  obtain ⟨p, q, hA0, hV, rfl, hfz, hnd⟩ := hW
  have hA : DataW.TrodAll enc Try.prog W 0 (fun _ => true) true Try.f4.params.toList args.toList ds p := hA0
  rw [Try.params4] at hA hval
  obtain ⟨v0, vs0, d0, ds0, p0, q0, hargs, rfl, rfl, h0, r0⟩ := trodAll_cons hA
  obtain ⟨v1, vs1, d1, ds1, p1, q1, rfl, rfl, rfl, h1, r1⟩ := trodAll_cons r0
  obtain ⟨rfl, rfl, rfl⟩ := trodAll_nil r1
  obtain rfl : args = #[v0, v1] := by cases args; simp_all
  obtain ⟨rfl, rfl⟩ := trodVars_none hV
  obtain ⟨a0, rfl, rfl, rfl, w0⟩ := open_int Try.underlying3 (hval 0 3 v0 rfl rfl) h0
  obtain ⟨a1, len1, cap1, rfl⟩ := okWide_slice Try.underlying22 (hval 1 22 v1 rfl rfl)
  have k1 := h1
  have lt1 : ∀ x ∈ p1, x.block < W.heap.size := by obtain ⟨m, hm⟩ := k1; exact DataW.trod_lt m _ _ _ hm
  obtain ⟨z1, w1⟩ : ∃ zs, IsRow .i64 W a1 len1 cap1 zs := by
    obtain ⟨fuel, hf⟩ := h1
    rcases open_ints Try.underlying22 Try.underlying3 (by kernel_rfl) hf with ⟨hcs, _⟩ | ⟨x, l, c, zs, hcs, _, hl, hm, hz, _, hcell, hwz⟩
    · simp [Value.cells] at hcs
      obtain ⟨rfl, rfl, rfl⟩ := hcs
      exact ⟨[], .inl ⟨rfl, rfl, rfl, rfl⟩⟩
    · simp [Value.cells] at hcs
      obtain ⟨rfl, rfl, rfl⟩ := hcs
      exact ⟨zs, .inr ⟨_, rfl, hl, hm, by simpa using hz, hcell, hwz⟩⟩
  clear hA0 hval0
  refine (walk a0 a1 len1 cap1 z1 W w0 w1).mono fun e W' ⟨he, bel⟩ => ?_
  subst he
  exact ⟨_, rfl, _, _, _, [], _, [], hW', trodAll_mk1 (shut_bool Try.underlying4 _), (trodAll_cons_mk (shut_int Try.underlying3 w0) (trodAll_cons_mk (Below.trod laidOut (by kernel_rfl) (of_decide_eq_true (by kernel_rfl)) k1 bel lt1) trodAll_mk0)), rfl, bel.frame _, fun h => by cases h⟩

theorem over : Rows.arenaQuotaRow.holds Try.pinned (OpenSpec.ofChange Rows.arenaQuotaSpec) :=
  OpenClaim.holds_of_wide 4 Try.f4 rfl rfl rfl rfl rfl rfl rfl ⟨rfl, rfl, rfl, rfl, rfl⟩ rfl rfl rfl rfl rfl (by kernel_rfl) Try.func4 (by kernel_rfl)
    (of_decide_eq_true (by kernel_rfl)) (by unfold Func.isWrapper; first | (rw [if_pos (by decide +kernel)]; kernel_rfl) | (rw [if_neg (by decide +kernel)]; exact ⟨rfl, rfl⟩))
    (fun os started H enc _ => lifted os started H enc)

/-- ████ THE STATEMENT ████ -/
theorem proved : Rows.ArenaQuotaSaid := over
#print axioms proved
end Go.Proofs.Ythilajdjkglkkaa.arenaQuota
