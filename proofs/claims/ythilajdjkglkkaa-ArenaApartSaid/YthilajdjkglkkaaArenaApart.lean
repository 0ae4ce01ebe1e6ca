/- The Go function ArenaApart returns true for every two slices of integers, and leaves them as they were: what is written to one block does not change another, through giving back and taking again. Conditions: none beyond the statement's own. -/
import Derived.Test.YthilajdjkglkkaaRows
import Derived.Test.YthilajdjkglkkaaApart
import Derived.Test.YthilajdjkglkkaaIn
import Derived.WalkKit
import Derived.ProofKit
import Derived.OpenShut
import Derived.ShutString
import Derived.ChangeOld
import Derived.Below
namespace Go.Proofs.Ythilajdjkglkkaa.arenaApart
open Go.ChangeShapes Go.WideShapes Go.ChangeAt Go.RowKit
open Go.ChangeMaps (open_string shut_string)
set_option linter.unusedVariables false

theorem own : ownKnob Try.prog.godebug = none := by kernel_rfl
theorem laidOut : laidOutB Try.prog = true := by kernel_rfl

/-- WHAT THE WALK IS TOLD OF A SLICE OF INTEGERS THAT CAME IN: it is nil; or it leads to a row of 'cap' cells, the numbers 'zs' (the first 'len' are its elements, the rest its spare room), each fitting its kind. -/
def IsRow (k : IntKind) (w : World) (a : Option Addr) (len cap : Nat) (zs : List Int) : Prop :=
  (a = none ∧ len = 0 ∧ cap = 0 ∧ zs = []) ∨
  ∃ x, a = some x ∧ len ≤ cap ∧ cap ≤ maxLen ∧ zs.length = cap ∧ (∀ i, i < zs.length → w.cell? (x.add i) = some (.int k (zs.getD i 0))) ∧ ∀ n ∈ zs, (Lit.int k n).wf = true

/-! ### STEP 1: THE WALK: the Go text returns true, AND WRITES NOTHING THAT WAS THERE: 'Below w.heap.size w w'' (Derived/Below.lean: '.refl', '.alloc', '.drew', '.setCell' at a new block, '.trans'). Open each 'IsRow' by 'rcases' AHEAD of 'go_enter'; part every test ahead of the walk. -/
def nmB (bs : List Bk) : List Value := bs.map fun x => Value.int .i64 ((x.own : Int) + 1)
def lnB (bs : List Bk) : List Value := bs.map fun x => Value.int .i64 (x.n : Int)
def mrB (bs : List Bk) : List Value := bs.map fun x => Value.int .u64 (x.mark : Int)
theorem map_cut {α β : Type} (f : α → β) (l : List α) (d : Nat) : (l.map f).eraseIdx d = (l.eraseIdx d).map f := by
  rw [List.eraseIdx_eq_take_drop_succ, List.eraseIdx_eq_take_drop_succ, List.map_append, List.map_take, List.map_drop]
def et (i : Nat) : TypeId := if i < 2 then 3 else 31

set_option maxHeartbeats 2000000 in
set_option maxRecDepth 100000 in
theorem walk (a0 : Option Addr) (len0 cap0 : Nat) (z0 : List Int) (a1 : Option Addr) (len1 cap1 : Nat) (z1 : List Int) (w : World) (w0 : IsRow .i64 w a0 len0 cap0 z0) (w1 : IsRow .i64 w a1 len1 cap1 z1) :
    Calls Try.prog 6 #[.slice a0 len0 cap0, .slice a1 len1 cap1] w fun e w' => e = .returned (.bool true) ∧ Below w.heap.size w w' := by

  have hin := inRow_of w0
  have hin2 := inRow_of w1
  clear w0 w1
  obtain ⟨f, hf⟩ : ∃ f : Nat → Int, (fun k => z0.getD k 0) = f := ⟨_, rfl⟩
  obtain ⟨f2, hf2⟩ : ∃ f : Nat → Int, (fun k => z1.getD k 0) = f := ⟨_, rfl⟩
  rw [hf] at hin
  rw [hf2] at hin2
  clear hf hf2
  have hlen := hin.1
  have hlen2 := hin2.1
  go_enter Try.func6, Try.ntmps6
  go_wp2_with fail
  refine (new_ok w 4000 4000 (by omega) (by omega) (by omega) (by omega)).mono ?_
  rintro e w1 ⟨rfl, h1, k1, z1⟩
  have hst := Wid.start k1 h1 (Nat.le_refl _) 3 et
  clear h1 z1 k1
  go_wp2_with fail
  go_loopg [7, 8, 9, 10] 100 (fun gk v7 v8 v9 i wr => ∃ (j : Nat) (F : Nat → Prop) (A : Ar) (bs : List Bk) (rows : Nat → List Value) (sl : Nat → Value), j ≤ 100 ∧ gk = 100 - j ∧ i = .int .i64 j ∧ sl 0 = v7 ∧ sl 1 = v8 ∧ sl 2 = v9 ∧
    Hid (Ap A bs ∧ rows 0 = nmB bs ∧ rows 1 = lnB bs ∧ rows 2 = mrB bs ∧ ∀ x ∈ bs, x.n < 40 ∧ x.mark ≤ 104857600) ∧ Wid w wr F w.heap.size A 3 et rows sl)
  case atStart => exact ⟨0, _, _, [], fun _ => [], fun _ => .slice none 0 0, by omega, rfl, rfl, rfl, rfl, rfl, ⟨Ap.new, rfl, rfl, rfl, by simp⟩, hst⟩
  case round =>
    clear hst
    obtain ⟨j, F, A, bs, rows, sl, hj, rfl, rfl, rfl, rfl, rfl, HA, hM⟩ := hrel
    by_cases hlt : j < len0 ∧ j < 100
    · obtain ⟨hlt, hlt1⟩ := hlt
      obtain ⟨bx, off, rfl, hc, hb1, hb2⟩ := hin.at' hM.kp j hlt
      go_wp2_with (go_at_call 10; refine (place_any _ _ 40 hb1 hb2 (by omega) (by omega)).mono ?_; rintro e w' ⟨rfl, rfl⟩)
      obtain ⟨n, hn40, hn⟩ : ∃ n : Nat, n < 40 ∧ f j % 40 = n := ⟨(f j % 40).toNat, by omega, by omega⟩
      rw [hn]
      clear hn hb1 hb2 hc
      refine (alloc_any hM.rep HA.out.1.inv n (by omega)).mono ?_
      rintro e w2 (⟨own, A1, hq', hc20, hf, rfl, hR, hK⟩ | ⟨hwhy, v3, rfl, ⟨g3, _, rfl, _⟩, hR, _, hK⟩)
      · obtain ⟨M, hM0⟩ : ∃ M : Nat, (j + 1) * 1048576 = M := ⟨_, rfl⟩
        have hMi : ((j : Int) + 1) * 1048576 = (M : Int) := by omega
        have hM1 : M ≤ 104857600 := by omega
        have h1 := HA.out.1.take (by omega) hc20 hq' hf M
        have hM2 := hM.step hR hK
        have H1 := Lib.hid h1
        clear h1 hq' hf hR hK hM hc20 hM0
        go_wp2_with fail

        go_loopg [15] n (fun gk kk wr => ∃ (k : Nat) (F : Nat → Prop) (A : Ar), k ≤ n ∧ gk = n - k ∧ kk = .int .i64 k ∧ Hid (Ap1 A bs own n M k) ∧ Wid w wr F w.heap.size A 3 et rows sl)
        case atStart => exact ⟨0, _, _, by omega, rfl, rfl, H1, hM2⟩
        case round =>
          clear hM2 H1
          obtain ⟨k, F, A, hk, rfl, rfl, H1, hM⟩ := hrel
          by_cases hkn : k < n
          · obtain ⟨hblk, hte, hpl, hlt3⟩ := H1.out.blk hkn
            have h2 := H1.out.put hkn
            rw [Int.natCast_add] at h2
            have H2 := Lib.hid (And.intro h2 hblk)
            clear h2 hblk
            go_wp2_with fail
            refine (set_ok hM.rep hte hpl own n k _ H2.out.2 hkn hlt3).mono ?_
            rintro e w3 ⟨rfl, hR, hK, _⟩
            have hM2 := hM.same hR hK
            clear hR hK hM H1
            go_wp2_with fail
            go_roundg (n - (k + 1))
            case measure => omega
            case rel => exact ⟨k + 1, _, _, by omega, rfl, by go_num, Lib.hid H2.out.1, hM2⟩
          · obtain rfl : n = k := by omega
            have h2 := H1.out.done
            have hl := h2.len.1
            simp only [List.length_append, List.length_cons, List.length_nil] at hl
            obtain ⟨_, hr0, hr1, hr2, hbd⟩ := HA.out
            have hl0 : (rows 0).length = bs.length := by rw [hr0]; simp [nmB]
            have hl1 : (rows 1).length = bs.length := by rw [hr1]; simp [lnB]
            have hl2 : (rows 2).length = bs.length := by rw [hr2]; simp [mrB]
            have H2 := Lib.hid (And.intro h2 (And.intro hr0 (And.intro hr1 (And.intro hr2 hbd))))
            clear h2 hr0 hr1 hr2 hbd H1 HA
            obtain ⟨hoA, hnA, hone, Hc⟩ := hM.app 0 (by omega) (.int .i64 ((own : Int) + 1)) rfl (by omega)
            obtain ⟨i0, hi, hz0, hz1, hz2⟩ := info_parts Try.info3
            go_wp2_with (at_builtin; refine wpList_append_w _ rfl _ _ 22 rfl w.heap.size 3 i0 (.int .i64 0) 8 Try.underlying22 hi hz0 hz1 hz2 rfl (sl 0) (rows 0).length _ rfl (hoA _) ⟨_, 0, none⟩ 1 (.int .i64 (own + 1)) rfl hnA rfl Hc.out.1 Hc.out.2 (hone _) _ (by simp; rfl) ?_; intro g1 cap1 w3 hown hgrow hat hlt3; refine Hid.out ?_)
            have hM3 := hM.push 0 (by omega) rfl hown hgrow hat
            clear hM hown hgrow hat hlt3 hoA hnA hone Hc
            have e1 : upd rows 0 (rows 0 ++ [.int .i64 ((own : Int) + 1)]) 1 = rows 1 := upd_other _ _ (by omega)
            have e2 : upd sl 0 (.slice (some ⟨g1, 0, none⟩) ((rows 0).length + 1) cap1) 1 = sl 1 := upd_other _ _ (by omega)
            obtain ⟨hoA, hnA, hone, Hc⟩ := hM3.app 1 (by omega) (.int .i64 (n : Int)) rfl (by rw [e1]; omega)
            rw [e1, e2] at hoA
            rw [e1] at Hc
            refine Lib.hid ?_
            go_wp2_with (at_builtin; refine wpList_append_w _ rfl _ _ 22 rfl w.heap.size 3 i0 (.int .i64 0) 8 Try.underlying22 hi hz0 hz1 hz2 rfl (sl 1) (rows 1).length _ rfl (hoA _) ⟨_, 0, none⟩ 1 (.int .i64 n) rfl hnA rfl Hc.out.1 Hc.out.2 (hone _) _ (by simp; rfl) ?_; intro g2 cap2 w4 hown hgrow hat hlt3; refine Hid.out ?_)
            have hM4 := hM3.push 1 (by omega) (by rw [e1]) (by rw [e1]; exact hown) (by rw [e2]; exact hgrow) (by rw [e2]; exact hat)
            clear hM3 hown hgrow hat hlt3 hoA hnA hone Hc e1 e2
            have e1 : upd (upd rows 0 (rows 0 ++ [.int .i64 ((own : Int) + 1)])) 1 (upd rows 0 (rows 0 ++ [.int .i64 ((own : Int) + 1)]) 1 ++ [.int .i64 (n : Int)]) 2 = rows 2 := by rw [upd_other _ _ (by omega), upd_other _ _ (by omega)]
            have e2 : upd (upd sl 0 (.slice (some ⟨g1, 0, none⟩) ((rows 0).length + 1) cap1)) 1 (.slice (some ⟨g2, 0, none⟩) ((rows 1).length + 1) cap2) 2 = sl 2 := by rw [upd_other _ _ (by omega), upd_other _ _ (by omega)]
            obtain ⟨hoA, hnA, hone, Hc⟩ := hM4.app 2 (by omega) (.int .u64 (M : Int)) rfl (by rw [e1]; omega)
            rw [e1, e2] at hoA
            rw [e1] at Hc
            clear hi hz0 hz1 hz2
            obtain ⟨i1, hi, hz0, hz1, hz2⟩ := info_parts Try.info31
            refine Lib.hid ?_
            go_wp2_with (at_builtin; refine wpList_append_w _ rfl _ _ 42 rfl w.heap.size 31 i1 (.int .u64 0) 8 Try.underlying42 hi hz0 hz1 hz2 rfl (sl 2) (rows 2).length _ rfl (hoA _) ⟨_, 0, none⟩ 1 (.int .u64 M) rfl hnA rfl Hc.out.1 Hc.out.2 (hone _) _ (by simp; rfl) ?_; intro g3 cap3 w5 hown hgrow hat hlt3; refine Hid.out ?_)
            have hM5 := hM4.push 2 (by omega) (by rw [e1]) (by rw [e1]; exact hown) (by rw [e2]; exact hgrow) (by rw [e2]; exact hat)
            clear hM4 hown hgrow hat hlt3 hoA hnA hone Hc e1 e2 hi hz0 hz1 hz2
            obtain ⟨rows', sl', HR, hM6⟩ : ∃ (rows' : Nat → List Value) (sl' : Nat → Value), Hid (rows' 0 = nmB (bs ++ [⟨own, n, M⟩]) ∧ rows' 1 = lnB (bs ++ [⟨own, n, M⟩]) ∧ rows' 2 = mrB (bs ++ [⟨own, n, M⟩]) ∧ sl' 0 = .slice (some ⟨g1, 0, none⟩) (bs.length + 1) cap1 ∧ sl' 1 = .slice (some ⟨g2, 0, none⟩) (bs.length + 1) cap2 ∧ sl' 2 = .slice (some ⟨g3, 0, none⟩) (bs.length + 1) cap3) ∧
                Wid w w5 F w.heap.size A 3 et rows' sl' := by
              refine ⟨_, _, Lib.hid ⟨?_, ?_, ?_, ?_, ?_, ?_⟩, hM5⟩
              · rw [upd_other _ _ (by omega), upd_other _ _ (by omega), upd_same, H2.out.2.1]; simp [nmB]
              · rw [upd_other _ _ (by omega), upd_same, upd_other _ _ (by omega), H2.out.2.2.1]; simp [lnB]
              · rw [upd_same, upd_other _ _ (by omega), upd_other _ _ (by omega), H2.out.2.2.2.1]; simp [mrB]
              · rw [upd_other _ _ (by omega), upd_other _ _ (by omega), upd_same, hl0]
              · rw [upd_other _ _ (by omega), upd_same, hl1]
              · rw [upd_same, hl2]
            obtain ⟨N, hN⟩ : ∃ N, bs.length + 1 = N := ⟨_, rfl⟩
            have hNi : (bs.length : Int) + 1 = (N : Int) := by omega
            have hN4 : N ≤ 4000 := by omega
            have HB : Hid (Ap A (bs ++ [⟨own, n, M⟩]) ∧ (bs ++ [Bk.mk own n M]).length = N ∧ ∀ x ∈ bs ++ [⟨own, n, M⟩], x.n < 40 ∧ x.mark ≤ 104857600) := Lib.hid (And.intro H2.out.1 (And.intro (by simp [hN]) (by
              intro x hx
              rcases List.mem_append.1 hx with hx | hx
              · exact H2.out.2.2.2.2 x hx
              · simp at hx; subst hx; exact ⟨hn40, hM1⟩)))
            rw [hN] at HR
            refine Lib.hid ?_
            try simp only [hl0, hl1, hl2]
            try simp only [hN]
            clear hM5 hl0 hl1 hl2 hl H2
            obtain ⟨bs2, hbs2⟩ : ∃ bs2, bs ++ [⟨own, n, M⟩] = bs2 := ⟨_, rfl⟩
            rw [hbs2] at HB HR
            have hN1 : 1 ≤ N := by omega
            clear hbs2 hN hNi hn40 hM1 hMi
            by_cases hl1 : j < len1
            · obtain ⟨bx2, off2, rfl, hc, hb1, hb2⟩ := hin2.at' hM6.kp j hl1
              by_cases ht3 : (f2 j).tmod 3 = 0
              · by_cases hN2 : 1 < N
                · obtain ⟨d, hdN, hd⟩ : ∃ d : Nat, d < N ∧ f2 j % (N : Int) = d := ⟨(f2 j % (N : Int)).toNat, by have := Int.emod_lt_of_pos (f2 j) (show (0 : Int) < N by omega); have := Int.emod_nonneg (f2 j) (show (N : Int) ≠ 0 by omega); omega, by have := Int.emod_nonneg (f2 j) (show (N : Int) ≠ 0 by omega); omega⟩
                  obtain ⟨x, hx⟩ : ∃ x, bs2[d]? = some x := ⟨bs2[d]'(by rw [HB.out.2.1]; exact hdN), List.getElem?_eq_getElem _⟩
                  obtain ⟨htk, hA2, hh⟩ := HB.out.1.free d x hx
                  have hrd : (rows' 0)[d]? = some (.int .i64 ((x.own : Int) + 1)) := by rw [HR.out.1, nmB, List.getElem?_map, hx]; rfl
                  obtain ⟨gl2, lcap2, hg2, hcap0, hcap0m, hcd⟩ := hM6.get 0 (by omega) d _ hrd
                  have hl0 : (rows' 0).length = N := by rw [HR.out.1]; simp [nmB, HB.out.2.1]
                  rw [HR.out.2.2.2.1, hl0] at hg2
                  injection hg2 with e1 e2 e3
                  injection e1 with e1
                  injection e1 with e1
                  subst e1
                  subst e3
                  have htl : (A.freed x.own (cls x.n)).taken.length ≤ 1048576 := by
                    have h1 := hA2.inv.len
                    have h2 := hA2.inv.top
                    have h3 := hA2.inv.size
                    omega
                  have Hd := Lib.hid (And.intro hd (And.intro htk (And.intro hA2 (And.intro hh (And.intro hrd hl0)))))
                  rw [hl0] at hcap0
                  clear hd htk hA2 hh hrd e2 hl0
                  go_wp2_with (go_at_call 10; refine (place_any _ _ (N : Int) hb1 hb2 (by omega) (by omega)).mono ?_; rintro e w' ⟨rfl, rfl⟩; rw [Hd.out.1])
                  refine (free_any hM6.rep HB.out.1.inv x.own x.n Hd.out.2.1).mono ?_
                  rintro e w6 ⟨rfl, hR, hK⟩
                  have hM7 := hM6.step hR hK
                  clear hR hK hM6 hcd hc hb1 hb2
                  obtain ⟨gl2, lcap2, hg2, _, _, hcd⟩ := hM7.get 0 (by omega) d _ Hd.out.2.2.2.2.1
                  rw [HR.out.2.2.2.1, Hd.out.2.2.2.2.2] at hg2
                  injection hg2 with e1 e2 e3
                  injection e1 with e1
                  injection e1 with e1
                  subst e1
                  clear e2 e3
                  go_wp2_with fail
                  refine (free_bad hM7.rep htl _ Hd.out.2.2.2.1).mono ?_
                  rintro e w7 ⟨v7, rfl, ⟨g7, _, rfl, _⟩, hR, _, hK⟩
                  have hM8 := hM7.bad hR hK
                  clear hR hK hM7 hcd htl
                  have hwr : IntKind.i64.wrap ((d : Int) + 1) = (d : Int) + 1 := by rw [IntKind.wrap_i64]; omega
                  have hp0 : (0 : Int) ≤ (d : Int) + 1 := by omega
                  have hp1 : (d : Int) + 1 ≤ (N : Int) := by omega
                  have hp2 : ((d : Int) + 1).toNat = d + 1 := by omega
                  obtain ⟨i0, hi, hz0, hz1, hz2⟩ := info_parts Try.info3
                  obtain ⟨i1, hi', hz0', hz1', hz2'⟩ := info_parts Try.info31
                  have hl0 : (rows' 0).length = N := Hd.out.2.2.2.2.2
                  have hl1' : (rows' 1).length = N := by rw [HR.out.2.1]; simp [lnB, HB.out.2.1]
                  have hl2' : (rows' 2).length = N := by rw [HR.out.2.2.1]; simp [mrB, HB.out.2.1]
                  obtain ⟨hcap1, hcap1m⟩ := hM8.caps 1 (by omega) HR.out.2.2.2.2.1 hl1'
                  obtain ⟨hcap2, hcap2m⟩ := hM8.caps 2 (by omega) HR.out.2.2.2.2.2 hl2'
                  obtain ⟨pa0, hpa0, Hpa0⟩ : ∃ pa : Option Addr, (if cap1 = d + 1 then some (⟨g1, 0, none⟩ : Addr) else some ⟨g1, d + 1, none⟩) = pa ∧ Hid (d + 1 < N → pa = some ⟨g1, d + 1, none⟩) := ⟨_, rfl, fun h => by rw [if_neg (by omega)]⟩
                  obtain ⟨pa1, hpa1, Hpa1⟩ : ∃ pa : Option Addr, (if cap2 = d + 1 then some (⟨g2, 0, none⟩ : Addr) else some ⟨g2, d + 1, none⟩) = pa ∧ Hid (d + 1 < N → pa = some ⟨g2, d + 1, none⟩) := ⟨_, rfl, fun h => by rw [if_neg (by omega)]⟩
                  obtain ⟨pa2, hpa2, Hpa2⟩ : ∃ pa : Option Addr, (if cap3 = d + 1 then some (⟨g3, 0, none⟩ : Addr) else some ⟨g3, d + 1, none⟩) = pa ∧ Hid (d + 1 < N → pa = some ⟨g3, d + 1, none⟩) := ⟨_, rfl, fun h => by rw [if_neg (by omega)]⟩
                  have hr := hM8.row 0 (by omega)
                  rw [HR.out.2.2.2.1, hl0] at hr
                  have Hr := Lib.hid (ownsW_heap (w' := w7.drew) rfl hr)
                  clear hr
                  have hd0 : d ≤ cap1 := by omega
                  have hd1 : d ≤ cap2 := by omega
                  have hd2 : d ≤ cap3 := by omega
                  have Hz := Lib.hid (show N ≤ maxLen ∧ N * 8 ≤ 140737488355328 from ⟨by unfold maxLen; omega, by omega⟩)
                  have hz8 := hM8.kp.size
                  have Hl := Lib.hid (And.intro hl0 (And.intro hl1' hl2'))
                  clear hl0 hl1' hl2'
                  go_wp2_with fail
                  go_region_law ((refine step_append_cut _ (by rfl) _ _ 22 (by rfl) w.heap.size 3 i0 (.int .i64 0) 8 Try.underlying22 hi hz0 hz1 hz2 (by rfl) g1 N cap1 (rows' 0) Hr.out d hdN (by simp [Act.eval, Act.put]) pa0 (cap1 - (d + 1)) (by simp [Act.eval, Act.put]) Hpa0.out Hz.out.1 Hz.out.2 hz8 w7.heap.size rfl ?_; intro g4 cap4 w8 hown hgrow hat))
                  have hM9 := hM8.cut 0 (by omega) HR.out.2.2.2.1 Hl.out.1 hdN hown hgrow hat
                  have hr := hM9.row 1 (by omega)
                  rw [upd_other _ _ (by omega), upd_other _ _ (by omega), HR.out.2.2.2.2.1, Hl.out.2.1] at hr
                  have Hr := Lib.hid (ownsW_heap (w' := w8.drew) rfl hr)
                  have hz9 := hM9.kp.size
                  clear hr hown hgrow hat hM8 hpa0
                  go_wp2_with fail
                  go_region_law ((refine step_append_cut _ (by rfl) _ _ 22 (by rfl) w.heap.size 3 i0 (.int .i64 0) 8 Try.underlying22 hi hz0 hz1 hz2 (by rfl) g2 N cap2 (rows' 1) Hr.out d hdN (by simp [Act.eval, Act.put]) pa1 (cap2 - (d + 1)) (by simp [Act.eval, Act.put]) Hpa1.out Hz.out.1 Hz.out.2 hz9 w8.heap.size rfl ?_; intro g5 cap5 w9 hown hgrow hat))
                  have hM10 := hM9.cut 1 (by omega) (by rw [upd_other _ _ (by omega)]; exact HR.out.2.2.2.2.1) (by rw [upd_other _ _ (by omega)]; exact Hl.out.2.1) hdN (by rw [upd_other _ _ (by omega)]; exact hown) hgrow hat
                  have hr := hM10.row 2 (by omega)
                  rw [upd_other _ _ (by omega), upd_other _ _ (by omega), upd_other _ _ (by omega), upd_other _ _ (by omega), HR.out.2.2.2.2.2, Hl.out.2.2] at hr
                  have Hr := Lib.hid (ownsW_heap (w' := w9.drew) rfl hr)
                  have hz10 := hM10.kp.size
                  clear hr hown hgrow hat hM9 hpa1
                  go_wp2_with fail
                  go_region_law ((refine step_append_cut _ (by rfl) _ _ 42 (by rfl) w.heap.size 31 i1 (.int .u64 0) 8 Try.underlying42 hi' hz0' hz1' hz2' (by rfl) g3 N cap3 (rows' 2) Hr.out d hdN (by simp [Act.eval, Act.put]) pa2 (cap3 - (d + 1)) (by simp [Act.eval, Act.put]) Hpa2.out Hz.out.1 Hz.out.2 hz10 w9.heap.size rfl ?_; intro g6 cap6 w10 hown hgrow hat))
                  have hM11 := hM10.cut 2 (by omega) (by rw [upd_other _ _ (by omega), upd_other _ _ (by omega)]; exact HR.out.2.2.2.2.2) (by rw [upd_other _ _ (by omega), upd_other _ _ (by omega)]; exact Hl.out.2.2) hdN (by rw [upd_other _ _ (by omega), upd_other _ _ (by omega)]; exact hown) hgrow hat
                  clear hown hgrow hat hM10 hpa2
                  go_wp2_with fail
                  go_roundg (100 - (j + 1))
                  case measure => omega
                  case rel =>
                    refine ⟨j + 1, _, _, bs2.eraseIdx d, _, _, by omega, rfl, by go_num, ?_, ?_, ?_, ⟨Hd.out.2.2.1, ?_, ?_, ?_, ?_⟩, hM11⟩
                    · rw [upd_other _ _ (by omega), upd_other _ _ (by omega), upd_same]
                    · rw [upd_other _ _ (by omega), upd_same]
                    · rw [upd_same]
                    · rw [upd_other _ _ (by omega), upd_other _ _ (by omega), upd_same, HR.out.1]; exact map_cut _ _ _
                    · rw [upd_other _ _ (by omega), upd_same, upd_other _ _ (by omega), HR.out.2.1]; exact map_cut _ _ _
                    · rw [upd_same, upd_other _ _ (by omega), upd_other _ _ (by omega), HR.out.2.2.1]; exact map_cut _ _ _
                    · exact fun y hy => HB.out.2.2 y (List.mem_of_mem_eraseIdx hy)
                · go_wp2_with fail
                  go_roundg (100 - (j + 1))
                  case measure => omega
                  case rel => exact ⟨j + 1, F, A, bs2, rows', sl', by omega, rfl, by go_num, HR.out.2.2.2.1, HR.out.2.2.2.2.1, HR.out.2.2.2.2.2, ⟨HB.out.1, HR.out.1, HR.out.2.1, HR.out.2.2.1, HB.out.2.2⟩, hM6⟩
              · go_wp2_with fail
                go_roundg (100 - (j + 1))
                case measure => omega
                case rel => exact ⟨j + 1, F, A, bs2, rows', sl', by omega, rfl, by go_num, HR.out.2.2.2.1, HR.out.2.2.2.2.1, HR.out.2.2.2.2.2, ⟨HB.out.1, HR.out.1, HR.out.2.1, HR.out.2.2.1, HB.out.2.2⟩, hM6⟩
            · go_wp2_with fail
              go_roundg (100 - (j + 1))
              case measure => omega
              case rel => exact ⟨j + 1, F, A, bs2, rows', sl', by omega, rfl, by go_num, HR.out.2.2.2.1, HR.out.2.2.2.2.1, HR.out.2.2.2.2.2, ⟨HB.out.1, HR.out.1, HR.out.2.1, HR.out.2.2.1, HB.out.2.2⟩, hM6⟩
      · have hM2 := hM.bad hR hK
        clear hM hR hK hwhy
        have hM := hM2
        clear hM2
        go_wp2_with fail
        obtain ⟨p0, c0, hf0⟩ := hM.form 0 (by omega)
        obtain ⟨p1, c1, hf1⟩ := hM.form 1 (by omega)
        obtain ⟨p2, c2, hf2⟩ := hM.form 2 (by omega)
        obtain ⟨hAp, hr0, hr1, hr2, hbd⟩ := HA.out
        have hln := hAp.len
        obtain ⟨N, hN⟩ : ∃ N, bs.length = N := ⟨_, rfl⟩
        have hl0 : (rows 0).length = N := by rw [hr0]; simp [nmB, hN]
        have hl1 : (rows 1).length = N := by rw [hr1]; simp [lnB, hN]
        have hl2 : (rows 2).length = N := by rw [hr2]; simp [mrB, hN]
        rw [hl0] at hf0
        rw [hl1] at hf1
        rw [hl2] at hf2
        rw [hN] at hln
        have hN4 := hln.1
        simp only [hf0, hf1, hf2]
        have hte0 : A.taken.length ≤ 1048576 := by
          have h1 := hAp.inv.len
          have h2 := hAp.inv.top
          have h3 := hAp.inv.size
          omega
        have HC := Lib.hid (And.intro hf0 (And.intro hf1 (And.intro hf2 (And.intro hN (And.intro hl0 (And.intro hl1 (And.intro hl2 hln.2)))))))
        clear hf0 hf1 hf2 hN hl0 hl1 hl2 hln hAp hr0 hr1 hr2 hbd
        go_wp2_with fail
        go_loopg [17, 18, 19, 20, 21, 22] N (fun gk i _ _ _ _ _ wr => ∃ t : Nat, t ≤ N ∧ gk = N - t ∧ i = .int .i64 t ∧ Wid w wr F w.heap.size A 3 et rows sl)
        case atStart => exact ⟨0, by omega, rfl, rfl, hM⟩
        case round =>
          clear hM
          obtain ⟨t, ht, rfl, rfl, hM⟩ := hrel
          by_cases htN : t < N
          · obtain ⟨x, hx⟩ : ∃ x, bs[t]? = some x := ⟨bs[t]'(by rw [HC.out.2.2.2.1]; exact htN), List.getElem?_eq_getElem _⟩
            obtain ⟨g0, d0, hs0, _, _, hc0⟩ := hM.get 0 (by omega) t (.int .i64 ((x.own : Int) + 1)) (by rw [HA.out.2.1, nmB, List.getElem?_map, hx]; rfl)
            obtain ⟨g1, d1, hs1, _, _, hc1⟩ := hM.get 1 (by omega) t (.int .i64 (x.n : Int)) (by rw [HA.out.2.2.1, lnB, List.getElem?_map, hx]; rfl)
            obtain ⟨g2, d2, hs2, _, _, hc2⟩ := hM.get 2 (by omega) t (.int .u64 (x.mark : Int)) (by rw [HA.out.2.2.2.1, mrB, List.getElem?_map, hx]; rfl)
            rw [HC.out.1] at hs0
            rw [HC.out.2.1] at hs1
            rw [HC.out.2.2.1] at hs2
            injection hs0 with hs0 q1 q2
            clear q1 q2
            injection hs1 with hs1 q1 q2
            clear q1 q2
            injection hs2 with hs2 q1 q2
            clear q1 q2
            subst hs0
            subst hs1
            subst hs2
            obtain ⟨hblk, hte, hpl, hword⟩ := HA.out.1.get t x hx
            obtain ⟨hn40, hM1⟩ := HA.out.2.2.2.2 x (List.mem_of_getElem? hx)
            have HW := Lib.hid (And.intro hblk hword)
            clear hblk hword hx
            obtain ⟨own, n, M⟩ := x
            simp only at hc0 hc1 hc2 hn40 hM1 HW
            go_wp2_with fail
            go_loopg [18, 19, 20] n (fun gk kk _ _ wr2 => ∃ k : Nat, k ≤ n ∧ gk = n - k ∧ kk = .int .i64 k ∧ wr = wr2)
            case atStart => exact ⟨0, by omega, rfl, rfl, rfl⟩
            case round =>
              obtain ⟨k, hk, rfl, rfl, rfl⟩ := hrel
              by_cases hkn : k < n
              · have hw := HW.out.2 k hkn
                rw [Int.natCast_add] at hw
                have Hw := Lib.hid hw
                clear hw
                go_wp2_with fail
                refine (get_ok hM.rep hte hpl own n k _ HW.out.1 hkn Hw.out).mono ?_
                rintro e w' ⟨rfl, rfl⟩
                go_wp2_with fail
                go_roundg (n - (k + 1))
                case measure => omega
                case rel => exact ⟨k + 1, by omega, rfl, by go_num, rfl⟩
              · obtain rfl : n = k := by omega
                go_wp2_with fail
                refine (len_ok hM.rep hte hpl own n HW.out.1).mono ?_
                rintro e w' ⟨rfl, rfl⟩
                go_wp2_with fail
                go_roundg (N - (t + 1))
                case measure => omega
                case rel => exact ⟨t + 1, by omega, rfl, by go_num, hM⟩
          · obtain rfl : N = t := by omega
            go_wp2_with fail
            refine (blocks_any hM.rep hte0).mono ?_
            rintro e w4 ⟨v4, rfl, hrow4, hK4⟩
            rw [HC.out.2.2.2.2.2.2.2] at hrow4
            obtain ⟨po4, cap4, rfl⟩ : ∃ po cap, v4 = .slice po N cap := by
              rcases hrow4.2 with ⟨e, h0⟩ | ⟨g, cap, _, e, _⟩
              · exact ⟨_, _, by rw [h0]; exact e⟩
              · exact ⟨_, _, e⟩
            clear hrow4
            go_wp2_with (go_at_call 15; refine (awake_any _).mono ?_; rintro e w5 ⟨rfl, hK5⟩)
            go_ret
            exact ⟨rfl, ((hM.kp.trans' hK4).trans' hK5).below _ (Nat.le_refl _) (fun _ h => h.elim)⟩
    · by_cases hlt0 : j < len0
      · have hj1 : ¬ j < 100 := fun h => hlt ⟨hlt0, h⟩
        clear hlt
        go_wp2_with fail
        obtain ⟨p0, c0, hf0⟩ := hM.form 0 (by omega)
        obtain ⟨p1, c1, hf1⟩ := hM.form 1 (by omega)
        obtain ⟨p2, c2, hf2⟩ := hM.form 2 (by omega)
        obtain ⟨hAp, hr0, hr1, hr2, hbd⟩ := HA.out
        have hln := hAp.len
        obtain ⟨N, hN⟩ : ∃ N, bs.length = N := ⟨_, rfl⟩
        have hl0 : (rows 0).length = N := by rw [hr0]; simp [nmB, hN]
        have hl1 : (rows 1).length = N := by rw [hr1]; simp [lnB, hN]
        have hl2 : (rows 2).length = N := by rw [hr2]; simp [mrB, hN]
        rw [hl0] at hf0
        rw [hl1] at hf1
        rw [hl2] at hf2
        rw [hN] at hln
        have hN4 := hln.1
        simp only [hf0, hf1, hf2]
        have hte0 : A.taken.length ≤ 1048576 := by
          have h1 := hAp.inv.len
          have h2 := hAp.inv.top
          have h3 := hAp.inv.size
          omega
        have HC := Lib.hid (And.intro hf0 (And.intro hf1 (And.intro hf2 (And.intro hN (And.intro hl0 (And.intro hl1 (And.intro hl2 hln.2)))))))
        clear hf0 hf1 hf2 hN hl0 hl1 hl2 hln hAp hr0 hr1 hr2 hbd
        go_wp2_with fail
        go_loopg [17, 18, 19, 20, 21, 22] N (fun gk i _ _ _ _ _ wr => ∃ t : Nat, t ≤ N ∧ gk = N - t ∧ i = .int .i64 t ∧ Wid w wr F w.heap.size A 3 et rows sl)
        case atStart => exact ⟨0, by omega, rfl, rfl, hM⟩
        case round =>
          clear hM
          obtain ⟨t, ht, rfl, rfl, hM⟩ := hrel
          by_cases htN : t < N
          · obtain ⟨x, hx⟩ : ∃ x, bs[t]? = some x := ⟨bs[t]'(by rw [HC.out.2.2.2.1]; exact htN), List.getElem?_eq_getElem _⟩
            obtain ⟨g0, d0, hs0, _, _, hc0⟩ := hM.get 0 (by omega) t (.int .i64 ((x.own : Int) + 1)) (by rw [HA.out.2.1, nmB, List.getElem?_map, hx]; rfl)
            obtain ⟨g1, d1, hs1, _, _, hc1⟩ := hM.get 1 (by omega) t (.int .i64 (x.n : Int)) (by rw [HA.out.2.2.1, lnB, List.getElem?_map, hx]; rfl)
            obtain ⟨g2, d2, hs2, _, _, hc2⟩ := hM.get 2 (by omega) t (.int .u64 (x.mark : Int)) (by rw [HA.out.2.2.2.1, mrB, List.getElem?_map, hx]; rfl)
            rw [HC.out.1] at hs0
            rw [HC.out.2.1] at hs1
            rw [HC.out.2.2.1] at hs2
            injection hs0 with hs0 q1 q2
            clear q1 q2
            injection hs1 with hs1 q1 q2
            clear q1 q2
            injection hs2 with hs2 q1 q2
            clear q1 q2
            subst hs0
            subst hs1
            subst hs2
            obtain ⟨hblk, hte, hpl, hword⟩ := HA.out.1.get t x hx
            obtain ⟨hn40, hM1⟩ := HA.out.2.2.2.2 x (List.mem_of_getElem? hx)
            have HW := Lib.hid (And.intro hblk hword)
            clear hblk hword hx
            obtain ⟨own, n, M⟩ := x
            simp only at hc0 hc1 hc2 hn40 hM1 HW
            go_wp2_with fail
            go_loopg [18, 19, 20] n (fun gk kk _ _ wr2 => ∃ k : Nat, k ≤ n ∧ gk = n - k ∧ kk = .int .i64 k ∧ wr = wr2)
            case atStart => exact ⟨0, by omega, rfl, rfl, rfl⟩
            case round =>
              obtain ⟨k, hk, rfl, rfl, rfl⟩ := hrel
              by_cases hkn : k < n
              · have hw := HW.out.2 k hkn
                rw [Int.natCast_add] at hw
                have Hw := Lib.hid hw
                clear hw
                go_wp2_with fail
                refine (get_ok hM.rep hte hpl own n k _ HW.out.1 hkn Hw.out).mono ?_
                rintro e w' ⟨rfl, rfl⟩
                go_wp2_with fail
                go_roundg (n - (k + 1))
                case measure => omega
                case rel => exact ⟨k + 1, by omega, rfl, by go_num, rfl⟩
              · obtain rfl : n = k := by omega
                go_wp2_with fail
                refine (len_ok hM.rep hte hpl own n HW.out.1).mono ?_
                rintro e w' ⟨rfl, rfl⟩
                go_wp2_with fail
                go_roundg (N - (t + 1))
                case measure => omega
                case rel => exact ⟨t + 1, by omega, rfl, by go_num, hM⟩
          · obtain rfl : N = t := by omega
            go_wp2_with fail
            refine (blocks_any hM.rep hte0).mono ?_
            rintro e w4 ⟨v4, rfl, hrow4, hK4⟩
            rw [HC.out.2.2.2.2.2.2.2] at hrow4
            obtain ⟨po4, cap4, rfl⟩ : ∃ po cap, v4 = .slice po N cap := by
              rcases hrow4.2 with ⟨e, h0⟩ | ⟨g, cap, _, e, _⟩
              · exact ⟨_, _, by rw [h0]; exact e⟩
              · exact ⟨_, _, e⟩
            clear hrow4
            go_wp2_with (go_at_call 15; refine (awake_any _).mono ?_; rintro e w5 ⟨rfl, hK5⟩)
            go_ret
            exact ⟨rfl, ((hM.kp.trans' hK4).trans' hK5).below _ (Nat.le_refl _) (fun _ h => h.elim)⟩
      · clear hlt
        go_wp2_with fail
        obtain ⟨p0, c0, hf0⟩ := hM.form 0 (by omega)
        obtain ⟨p1, c1, hf1⟩ := hM.form 1 (by omega)
        obtain ⟨p2, c2, hf2⟩ := hM.form 2 (by omega)
        obtain ⟨hAp, hr0, hr1, hr2, hbd⟩ := HA.out
        have hln := hAp.len
        obtain ⟨N, hN⟩ : ∃ N, bs.length = N := ⟨_, rfl⟩
        have hl0 : (rows 0).length = N := by rw [hr0]; simp [nmB, hN]
        have hl1 : (rows 1).length = N := by rw [hr1]; simp [lnB, hN]
        have hl2 : (rows 2).length = N := by rw [hr2]; simp [mrB, hN]
        rw [hl0] at hf0
        rw [hl1] at hf1
        rw [hl2] at hf2
        rw [hN] at hln
        have hN4 := hln.1
        simp only [hf0, hf1, hf2]
        have hte0 : A.taken.length ≤ 1048576 := by
          have h1 := hAp.inv.len
          have h2 := hAp.inv.top
          have h3 := hAp.inv.size
          omega
        have HC := Lib.hid (And.intro hf0 (And.intro hf1 (And.intro hf2 (And.intro hN (And.intro hl0 (And.intro hl1 (And.intro hl2 hln.2)))))))
        clear hf0 hf1 hf2 hN hl0 hl1 hl2 hln hAp hr0 hr1 hr2 hbd
        go_wp2_with fail
        go_loopg [17, 18, 19, 20, 21, 22] N (fun gk i _ _ _ _ _ wr => ∃ t : Nat, t ≤ N ∧ gk = N - t ∧ i = .int .i64 t ∧ Wid w wr F w.heap.size A 3 et rows sl)
        case atStart => exact ⟨0, by omega, rfl, rfl, hM⟩
        case round =>
          clear hM
          obtain ⟨t, ht, rfl, rfl, hM⟩ := hrel
          by_cases htN : t < N
          · obtain ⟨x, hx⟩ : ∃ x, bs[t]? = some x := ⟨bs[t]'(by rw [HC.out.2.2.2.1]; exact htN), List.getElem?_eq_getElem _⟩
            obtain ⟨g0, d0, hs0, _, _, hc0⟩ := hM.get 0 (by omega) t (.int .i64 ((x.own : Int) + 1)) (by rw [HA.out.2.1, nmB, List.getElem?_map, hx]; rfl)
            obtain ⟨g1, d1, hs1, _, _, hc1⟩ := hM.get 1 (by omega) t (.int .i64 (x.n : Int)) (by rw [HA.out.2.2.1, lnB, List.getElem?_map, hx]; rfl)
            obtain ⟨g2, d2, hs2, _, _, hc2⟩ := hM.get 2 (by omega) t (.int .u64 (x.mark : Int)) (by rw [HA.out.2.2.2.1, mrB, List.getElem?_map, hx]; rfl)
            rw [HC.out.1] at hs0
            rw [HC.out.2.1] at hs1
            rw [HC.out.2.2.1] at hs2
            injection hs0 with hs0 q1 q2
            clear q1 q2
            injection hs1 with hs1 q1 q2
            clear q1 q2
            injection hs2 with hs2 q1 q2
            clear q1 q2
            subst hs0
            subst hs1
            subst hs2
            obtain ⟨hblk, hte, hpl, hword⟩ := HA.out.1.get t x hx
            obtain ⟨hn40, hM1⟩ := HA.out.2.2.2.2 x (List.mem_of_getElem? hx)
            have HW := Lib.hid (And.intro hblk hword)
            clear hblk hword hx
            obtain ⟨own, n, M⟩ := x
            simp only at hc0 hc1 hc2 hn40 hM1 HW
            go_wp2_with fail
            go_loopg [18, 19, 20] n (fun gk kk _ _ wr2 => ∃ k : Nat, k ≤ n ∧ gk = n - k ∧ kk = .int .i64 k ∧ wr = wr2)
            case atStart => exact ⟨0, by omega, rfl, rfl, rfl⟩
            case round =>
              obtain ⟨k, hk, rfl, rfl, rfl⟩ := hrel
              by_cases hkn : k < n
              · have hw := HW.out.2 k hkn
                rw [Int.natCast_add] at hw
                have Hw := Lib.hid hw
                clear hw
                go_wp2_with fail
                refine (get_ok hM.rep hte hpl own n k _ HW.out.1 hkn Hw.out).mono ?_
                rintro e w' ⟨rfl, rfl⟩
                go_wp2_with fail
                go_roundg (n - (k + 1))
                case measure => omega
                case rel => exact ⟨k + 1, by omega, rfl, by go_num, rfl⟩
              · obtain rfl : n = k := by omega
                go_wp2_with fail
                refine (len_ok hM.rep hte hpl own n HW.out.1).mono ?_
                rintro e w' ⟨rfl, rfl⟩
                go_wp2_with fail
                go_roundg (N - (t + 1))
                case measure => omega
                case rel => exact ⟨t + 1, by omega, rfl, by go_num, hM⟩
          · obtain rfl : N = t := by omega
            go_wp2_with fail
            refine (blocks_any hM.rep hte0).mono ?_
            rintro e w4 ⟨v4, rfl, hrow4, hK4⟩
            rw [HC.out.2.2.2.2.2.2.2] at hrow4
            obtain ⟨po4, cap4, rfl⟩ : ∃ po cap, v4 = .slice po N cap := by
              rcases hrow4.2 with ⟨e, h0⟩ | ⟨g, cap, _, e, _⟩
              · exact ⟨_, _, by rw [h0]; exact e⟩
              · exact ⟨_, _, e⟩
            clear hrow4
            go_wp2_with (go_at_call 15; refine (awake_any _).mono ?_; rintro e w5 ⟨rfl, hK5⟩)
            go_ret
            exact ⟨rfl, ((hM.kp.trans' hK4).trans' hK5).below _ (Nat.le_refl _) (fun _ h => h.elim)⟩

/-! ### THE ROW's STEP: WRITTEN OUT: LEAVE IT -/
set_option maxRecDepth 100000 in
theorem lifted (os : Os) (started : os.Started) (H : Type) (enc : TypeId × Value → H) :
    ReturnsInHanded {} Try.checked os 6 .any (Rows.arenaApartSpec.pre6 enc Try.prog Try.f6 Rows.arenaApartRow.domain false) (Rows.arenaApartSpec.post enc Try.prog Try.f6 false true false false) := by
  refine returnsInHanded_of_change (C := Try.checked) own started (by kernel_rfl) Try.func6
    (ChangeSpec.witness6 (enc := enc) (C := Try.checked) false ⟨#[], #[.slice none 0 0, .slice none 0 0], []⟩ 8 (by kernel_rfl) (by kernel_rfl) (by kernel_rfl) (by kernel_rfl)) ?_
  intro W base args ds gs before hval0 hW hcnd _
  have hval : ∀ (j : Nat) t v, Try.f6.params[j]? = some t → args[j]? = some v → Value.okWide Try.prog W .any base t v := hval0
  have hW' := hW
  obtain ⟨p, q, hA0, hV, rfl, hfz, hnd⟩ := hW
  have hA : DataW.TrodAll enc Try.prog W 0 (fun _ => true) true Try.f6.params.toList args.toList ds p := hA0
  rw [Try.params6] at hA hval
  obtain ⟨v0, vs0, d0, ds0, p0, q0, hargs, rfl, rfl, h0, r0⟩ := trodAll_cons hA
  obtain ⟨v1, vs1, d1, ds1, p1, q1, rfl, rfl, rfl, h1, r1⟩ := trodAll_cons r0
  obtain ⟨rfl, rfl, rfl⟩ := trodAll_nil r1
  obtain rfl : args = #[v0, v1] := by cases args; simp_all
  obtain ⟨rfl, rfl⟩ := trodVars_none hV
  obtain ⟨a0, len0, cap0, rfl⟩ := okWide_slice Try.underlying22 (hval 0 22 v0 rfl rfl)
  have k0 := h0
  have lt0 : ∀ x ∈ p0, x.block < W.heap.size := by obtain ⟨m, hm⟩ := k0; exact DataW.trod_lt m _ _ _ hm
  obtain ⟨z0, w0⟩ : ∃ zs, IsRow .i64 W a0 len0 cap0 zs := by
    obtain ⟨fuel, hf⟩ := h0
    rcases open_ints Try.underlying22 Try.underlying3 (by kernel_rfl) hf with ⟨hcs, _⟩ | ⟨x, l, c, zs, hcs, _, hl, hm, hz, _, hcell, hwz⟩
    · simp [Value.cells] at hcs
      obtain ⟨rfl, rfl, rfl⟩ := hcs
      exact ⟨[], .inl ⟨rfl, rfl, rfl, rfl⟩⟩
    · simp [Value.cells] at hcs
      obtain ⟨rfl, rfl, rfl⟩ := hcs
      exact ⟨zs, .inr ⟨_, rfl, hl, hm, by simpa using hz, hcell, hwz⟩⟩
  obtain ⟨a1, len1, cap1, rfl⟩ := okWide_slice Try.underlying22 (hval 1 22 v1 rfl rfl)
  have k1 := h1
  have lt1 : ∀ x ∈ p1, x.block < W.heap.size := by obtain ⟨m, hm⟩ := k1; exact DataW.trod_lt m _ _ _ hm
  obtain ⟨z1, w1⟩ : ∃ zs, IsRow .i64 W a1 len1 cap1 zs := by
    obtain ⟨fuel, hf⟩ := h1
    rcases open_ints Try.underlying22 Try.underlying3 (by kernel_rfl) hf with ⟨hcs, _⟩ | ⟨x, l, c, zs, hcs, _, hl, hm, hz, _, hcell, hwz⟩
    · simp [Value.cells] at hcs
      obtain ⟨rfl, rfl, rfl⟩ := hcs
      exact ⟨[], .inl ⟨rfl, rfl, rfl, rfl⟩⟩
    · simp [Value.cells] at hcs
      obtain ⟨rfl, rfl, rfl⟩ := hcs
      exact ⟨zs, .inr ⟨_, rfl, hl, hm, by simpa using hz, hcell, hwz⟩⟩
  clear hA0 hval0
  refine (walk a0 len0 cap0 z0 a1 len1 cap1 z1 W w0 w1).mono fun e W' ⟨he, bel⟩ => ?_
  subst he
  exact ⟨_, rfl, _, _, _, [], _, [], hW', trodAll_mk1 (shut_bool Try.underlying4 _), (trodAll_cons_mk (Below.trod laidOut (by kernel_rfl) (of_decide_eq_true (by kernel_rfl)) k0 bel lt0) (trodAll_cons_mk (Below.trod laidOut (by kernel_rfl) (of_decide_eq_true (by kernel_rfl)) k1 bel lt1) trodAll_mk0)), rfl, bel.frame _, fun h => by cases h⟩

theorem over : Rows.arenaApartRow.holds Try.pinned (OpenSpec.ofChange Rows.arenaApartSpec) :=
  OpenClaim.holds_of_wide 6 Try.f6 rfl rfl rfl rfl rfl rfl rfl ⟨rfl, rfl, rfl, rfl, rfl⟩ rfl rfl rfl rfl rfl (by kernel_rfl) Try.func6 (by kernel_rfl)
    (of_decide_eq_true (by kernel_rfl)) (by unfold Func.isWrapper; first | (rw [if_pos (by decide +kernel)]; kernel_rfl) | (rw [if_neg (by decide +kernel)]; exact ⟨rfl, rfl⟩))
    (fun os started H enc _ => lifted os started H enc)

/-- ████ THE STATEMENT ████ -/
theorem proved : Rows.ArenaApartSaid := over
#print axioms proved
end Go.Proofs.Ythilajdjkglkkaa.arenaApart
