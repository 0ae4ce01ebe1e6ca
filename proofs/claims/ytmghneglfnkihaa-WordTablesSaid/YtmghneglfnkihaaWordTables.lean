/- The Go function WordTables returns true for every list of names, and leaves it as it was: two tables of atoms have nothing in common; a name has one number, however often it is asked for, and unlike names have unlike ones. Conditions: none beyond the statement's own. -/
import Derived.Test.YtmghneglfnkihaaRows
import Derived.Test.YtmghneglfnkihaaDuo
import Derived.WalkKit
import Derived.ProofKit
import Derived.OpenShut
import Derived.ShutString
import Derived.ChangeOld
import Derived.Below
import Derived.Deep.Strs
namespace Go.Proofs.Ytmghneglfnkihaa.wordTables
open Go.ChangeShapes Go.WideShapes Go.ChangeAt Go.RowKit
open Go.ChangeMaps (open_string shut_string)
set_option linter.unusedVariables false

theorem own : ownKnob Try.prog.godebug = none := by kernel_rfl
theorem laidOut : laidOutB Try.prog = true := by kernel_rfl

theorem po_inj {g h l m c d : Nat} (e : Value.slice (some ⟨g, 0, none⟩) l c = .slice (some ⟨h, 0, none⟩) m d) : g = h := by
  injection e with e1
  injection e1 with e1
  injection e1
def firstS : ByteArray := ⟨#[102, 105, 114, 115, 116]⟩

/-- what holds of the two tables behind so many names -/
structure Mid (w wr : World) (F G : Nat → Prop) (pa pb : Nat) (ta tb : List ByteArray) (v : Value) (cs : List Int) (z : Nat → ByteArray) (k : Nat) : Prop where
  duo : DuoS w wr F G pa pb ta tb v cs
  len : cs.length = k
  got : ∀ (i : Nat) (c : Int), cs[i]? = some c → Got ta (z i) c
  la : ta.length ≤ k
  lb : tb.length ≤ k + 1
  fst : tb[0]? = some firstS

set_option maxHeartbeats 4000000 in
set_option maxRecDepth 100000 in
theorem walk_big (a0 : Option Addr) (len0 cap0 : Nat) (z0 : Nat → ByteArray) (w : World) (hh : StrIn w a0 len0 z0 ∧ len0 ≤ cap0 ∧ cap0 ≤ 9223372036854775807) (hbig : 200 < len0) :
    Calls Try.prog 10 #[.slice a0 len0 cap0] w fun e w' => e = .returned (.bool true) ∧ Below w.heap.size w w' := by
  obtain ⟨h0, hcap, hcapm⟩ := hh
  have hlen0 := h0.1
  have hbi : (200 : Int) < len0 := by omega
  have hbc : (200 : Int) ≤ cap0 := by omega
  have hin : StrIn w a0 200 z0 := ⟨by omega, fun k hk => h0.2 k (by omega)⟩
  obtain ⟨L, hL, hL2⟩ : ∃ L, 200 = L ∧ L ≤ 200 := ⟨_, rfl, Nat.le_refl _⟩
  rw [hL] at hin
  have HL := Lib.hid hL
  clear hL h0
  go_enter Try.func10, Try.ntmps10
  go_wp2_with fail
  refine (newAtoms_any w).mono ?_
  rintro e w1 ⟨rfl, rfl⟩
  go_wp2_with fail
  refine (newAtoms_any _).mono ?_
  rintro e w1 ⟨rfl, rfl⟩
  have hD := duo_new w
  go_wp2_with fail
  refine (number_new hD.rb firstS (by decide) (by decide) (by simp) (by simp)).mono ?_
  rintro e w1 ⟨rfl, hr, hk⟩
  have hD1 := hD.stepB hr hk
  have HD := Lib.hid hD1
  clear hD hD1 hr hk
  go_wp2_with fail
  rw [HL.out]
  have Hm : Hid (Mid w w1 (fun q => q = w.heap.size) (Ext (fun q => q = w.heap.size + 1) _ w1) w.heap.size (w.heap.size + 1) [] [firstS] (.slice none 0 0) [] z0 0) :=
    Lib.hid ⟨HD.out, rfl, fun i c h => by simp at h, by simp, by simp, rfl⟩
  go_loopg [5, 6] L (fun gk ns ii wr => ∃ (k : Nat) (F G : Nat → Prop) (ta tb : List ByteArray) (cs : List Int) (vs : Value), k ≤ L ∧ gk = L - k ∧ ii = Value.int .i64 k ∧ vs = ns ∧ Mid w wr F G w.heap.size (w.heap.size + 1) ta tb vs cs z0 k)
  case atStart => exact ⟨0, _, _, _, _, _, _, by omega, rfl, rfl, rfl, Hm.out⟩
  case round =>
    clear HD Hm
    obtain ⟨k, F, G, ta, tb, cs, vs, hk, rfl, rfl, rfl, hM⟩ := hrel
    by_cases hlt : k < L
    · obtain ⟨bx, off, rfl, hc, hsz⟩ := hin.at' hM.duo.kp k hlt
      obtain ⟨s, hs⟩ : ∃ s, z0 k = s := ⟨_, rfl⟩
      rw [hs] at hc hsz
      have hla := hM.la
      have hlb := hM.lb
      obtain ⟨c, l, ta', hN⟩ := numIs_any ta s (by omega)
      obtain ⟨d, m, tb', hN2⟩ := numIs_any tb s (by omega)
      have hcl := hN.short
      have hc0 : -1 ≤ c := hcl.2.1
      have hc1 : c ≤ 1024 := hcl.2.2 (by omega)
      have HM := Lib.hid (And.intro hM (And.intro hs (And.intro hsz (And.intro hN hN2))))
      clear hM hs hsz hN hN2 hcl
      have hli : (k : Int) < L := by omega
      go_wp2_with fail
      refine (number_any HM.out.1.duo.ra s HM.out.2.2.1 HM.out.2.2.2.1).mono ?_
      rintro e w2 ⟨v1, rfl, hch1, hr1, hk1⟩
      have hD2 := HM.out.1.duo.stepA hr1 hk1
      obtain ⟨bx2, off2, e1, hcA, _⟩ := hin.at' hD2.kp k hlt
      have hcB : w2.cell? ⟨bx, off + k, none⟩ = some (.string s) := by
        injection e1 with e1
        injection e1 with e1 e2
        subst e1
        subst e2
        rw [← HM.out.2.1]
        exact hcA
      have HD2 := Lib.hid hD2
      clear hD2 hch1 hr1 hk1 hcA e1 hc
      go_wp2_with fail
      refine (number_any HD2.out.rb s HM.out.2.2.1 HM.out.2.2.2.2).mono ?_
      rintro e w3 ⟨v2, rfl, hch2, hr2, hk2⟩
      have hD3 := HD2.out.stepB hr2 hk2
      obtain ⟨po, cap2, hv, _⟩ := hD3.at
      have hcsl : cs.length = k := HM.out.1.len
      rw [hcsl] at hv
      subst hv
      have hrow := hD3.row
      rw [hcsl] at hrow
      have hoA : ∀ o, (w3.alloc o).ownsRow w.heap.size 3 1 (.slice po k cap2) k (cs.map (Value.int .i64)) := fun o => hrow.alloc o
      have hnA : ∀ i u, [Value.int .i64 c][i]? = some u → (w3.alloc (.cells #[Value.int .i64 c] 3)).cell? ((⟨w3.heap.size, 0, none⟩ : Addr).add i) = some u :=
        World.news_of_block (cs := #[Value.int .i64 c]) (heap_alloc_new w3 _)
      have hone : ∀ u ∈ [Value.int .i64 c], u.oneCell' = true := by intro u hu; simp at hu; subst hu; rfl
      have hcc1 : k + 1 ≤ maxLen := by unfold maxLen; omega
      have hcc2 : (k + 1) * 8 ≤ 140737488355328 := by omega
      obtain ⟨i0, hi, hz0, hz1, hz2⟩ := info_parts Try.infoInt
      have hbase : w.heap.size ≤ (w3.alloc (.cells #[Value.int .i64 c] 3)).heap.size := by have := hD3.kp.size; simp; omega
      have HD3 := Lib.hid (And.intro hD3 (And.intro hcc1 (And.intro hcc2 hcsl)))
      clear hD3 hcc1 hcc2 hcsl hrow hch2 hr2 hk2
      go_wp2_with (at_builtin; refine wpList_append_lies _ rfl _ _ 23 rfl w.heap.size 3 i0 (.int .i64 0) 1 8 Try.underlying23 hi hz0 hz1 hz2 rfl (by omega) (.slice po k cap2) k _ rfl (hoA _) ⟨w3.heap.size, 0, none⟩ 1 1 [.int .i64 c] rfl rfl hnA hone (by omega) HD3.out.2.1 HD3.out.2.2.1 hbase (w3.heap.size + 1) (by simp) ?_; intro g1 cap1 w4 hown4 hgrow4 hat4 hlt4)
      have hfin : Mid w w4 (Ext F wr w2) (Ext G w2 w3) w.heap.size (w.heap.size + 1) ta' tb' (.slice (some ⟨g1, 0, none⟩) (k + 1) cap1) (cs ++ [c]) z0 (k + 1) := by
        obtain ⟨hM, hs, hsz, hN, hN2⟩ := HM.out
        obtain ⟨hD3, _, _, hcsl⟩ := HD3.out
        have h1 := hN.got (by have := hM.la; omega)
        have h2 := hN2.got (by have := hM.lb; omega)
        refine ⟨?_, by simp [hcsl], ?_, ?_, ?_, h2.2.1 0 _ hM.fst⟩
        · have := hD3.push (x := c) (g := g1) (cap := cap1) (w2 := w4) (by rw [hcsl]; exact hown4) hgrow4 hat4
          rw [hcsl] at this
          exact this
        · intro i x hx
          by_cases hi : i < cs.length
          · rw [List.getElem?_append_left hi] at hx
            exact (hM.got i x hx).more h1.2.1
          · have hl := (List.getElem?_eq_some_iff.1 hx).1
            simp at hl
            rw [List.getElem?_append_right (by omega), show i - cs.length = 0 by omega] at hx
            simp at hx
            subst hx
            rw [show i = k by omega, hs]
            exact h1.1
        · have := h1.2.2; have := hM.la; omega
        · have := h2.2.2; have := hM.lb; omega
      have Hfin := Lib.hid hfin
      clear hfin hown4 hgrow4 hat4 hlt4 hoA hnA hone
      go_wp2_with fail
      go_roundg (L - (k + 1))
      case measure => omega
      case rel => exact ⟨k + 1, _, _, _, _, _, _, by omega, rfl, by go_num, rfl, Hfin.out⟩
    · obtain rfl : L = k := by omega
      have HM := Lib.hid hM
      clear hM
      go_wp2_with fail
      go_loopg [9] L (fun gk ii wr => ∃ (i : Nat) (F G : Nat → Prop), i ≤ L ∧ gk = L - i ∧ ii = Value.int .i64 i ∧ Mid w wr F G w.heap.size (w.heap.size + 1) ta tb vs cs z0 L)
      case atStart => exact ⟨0, _, _, by omega, rfl, rfl, HM.out⟩
      case round =>
        clear HM
        obtain ⟨i, F, G, hi, rfl, rfl, hM⟩ := hrel
        by_cases hlt : i < L
        · obtain ⟨bx, off, rfl, hc, hsz⟩ := hin.at' hM.duo.kp i hlt
          obtain ⟨s, hs⟩ : ∃ s, z0 i = s := ⟨_, rfl⟩
          rw [hs] at hc hsz
          have hcsl := hM.len
          obtain ⟨c, hcs⟩ : ∃ c, cs[i]? = some c := ⟨cs[i], List.getElem?_eq_getElem (by omega)⟩
          have hgot := hM.got i c hcs
          rw [hs] at hgot
          have hli : (i : Int) < L := by omega
          have hla := hM.la
          obtain ⟨po, cap2, hv, hat⟩ := hM.duo.at
          rw [hcsl] at hv
          subst hv
          obtain ⟨gn, rfl, _⟩ := hat i c hcs
          rcases hgot with ⟨hbad, rfl⟩ | ⟨hs1, hs2, n, hn, rfl⟩
          · have HM := Lib.hid (And.intro hM (And.intro hs (And.intro hcs hbad)))
            clear hM hs hcs hbad hat
            go_wp2_with fail
            refine (number_bad _ s wr hsz HM.out.2.2.2).mono ?_
            rintro e w2 ⟨v1, rfl, hch1, hk1⟩
            obtain ⟨g1, rfl⟩ := hch1.out.form
            have hD2 := HM.out.1.duo.same hk1
            obtain ⟨bx2, off2, e1, hcA, _⟩ := hin.at' hD2.kp i hlt
            have hcB : w2.cell? ⟨bx, off + i, none⟩ = some (.string s) := by
              injection e1 with e1
              injection e1 with e1 e2
              subst e1
              subst e2
              rw [← HM.out.2.1]
              exact hcA
            obtain ⟨po3, cap3, hv3, hat3⟩ := hD2.at
            obtain ⟨gn3, e3, hcN⟩ := hat3 i _ HM.out.2.2.1
            have hcC : w2.cell? ⟨gn, i, none⟩ = some (.int .i64 (-1)) := by
              rw [e3] at hv3
              rw [po_inj hv3]
              exact hcN
            have HM2 : Hid (Mid w w2 F G w.heap.size (w.heap.size + 1) ta tb (.slice (some ⟨gn, 0, none⟩) L cap2) cs z0 L) := Lib.hid ⟨hD2, HM.out.1.len, HM.out.1.got, HM.out.1.la, HM.out.1.lb, HM.out.1.fst⟩
            have hbad := HM.out.2.2.2
            clear hch1 hk1 hD2 e1 hcA hv3 hat3 hcN e3 hc
            have hszm : (s.size : Int) ≤ 9223372036854775807 := by unfold maxLen at hsz; omega
            by_cases hz : s.size = 0
            · have f1 := str_empty hz
              have f2 : s.toList.isEmpty = true := by rw [f1]; rfl
              clear hbad hz
              go_wp2_with fail
              go_quiet (fail)
              go_wp2_with fail
              go_roundg (L - (i + 1))
              case measure => omega
              case rel =>
                refine ⟨i + 1, _, _, by omega, rfl, by go_num, ⟨HM2.out.duo.same (kp_drewN _ _ _), HM2.out.len, HM2.out.got, HM2.out.la, HM2.out.lb, HM2.out.fst⟩⟩
            · have f1 := str_full (s := s) (by omega)
              have f2 := str_full2 (s := s) (by omega)
              have f3 : ¬ (s.size : Int) ≤ 255 := by omega
              clear hbad hz
              go_wp2_with fail
              go_quiet (fail)
              go_wp2_with fail
              go_roundg (L - (i + 1))
              case measure => omega
              case rel =>
                refine ⟨i + 1, _, _, by omega, rfl, by go_num, ⟨HM2.out.duo.same (kp_drewN _ _ _), HM2.out.len, HM2.out.got, HM2.out.la, HM2.out.lb, HM2.out.fst⟩⟩
          · have HM := Lib.hid (And.intro hM (And.intro hs (And.intro hcs hn)))
            have hnt := (List.getElem?_eq_some_iff.1 hn).1
            clear hM hs hcs hn hat
            go_wp2_with fail
            refine (number_old HM.out.1.duo.ra s hs1 hs2 n HM.out.2.2.2).mono ?_
            rintro e w2 ⟨rfl, hr2, hk2⟩
            have hD2 := HM.out.1.duo.stepA hr2 (hk2.mono fun _ _ e => e.elim)
            obtain ⟨bx2, off2, e1, hcA, _⟩ := hin.at' hD2.kp i hlt
            have hcB : w2.cell? ⟨bx, off + i, none⟩ = some (.string s) := by
              injection e1 with e1
              injection e1 with e1 e2
              subst e1
              subst e2
              rw [← HM.out.2.1]
              exact hcA
            obtain ⟨po3, cap3, hv3, hat3⟩ := hD2.at
            obtain ⟨gn3, e3, hcN⟩ := hat3 i _ HM.out.2.2.1
            have hcC : w2.cell? ⟨gn, i, none⟩ = some (.int .i64 n) := by
              rw [e3] at hv3
              rw [po_inj hv3]
              exact hcN
            obtain ⟨FF, hFF⟩ : ∃ FF, Ext F wr w2 = FF := ⟨_, rfl⟩
            rw [hFF] at hD2
            have HM2 : Hid (Mid w w2 FF G w.heap.size (w.heap.size + 1) ta tb (.slice (some ⟨gn, 0, none⟩) L cap2) cs z0 L) := Lib.hid ⟨hD2, HM.out.1.len, HM.out.1.got, HM.out.1.la, HM.out.1.lb, HM.out.1.fst⟩
            clear hr2 hk2 hD2 e1 hcA hv3 hat3 hcN e3 hc hFF
            have f1 := str_full hs1
            have f2 := str_full2 hs1
            have f3 : (s.size : Int) ≤ 255 := by omega
            go_wp2_with fail
            go_quiet (fail)
            go_wp2_with fail
            refine (name_ok (HM2.out.duo.ra.kp (kp_drewN (fun _ => False) w2 _) (fun _ _ e => e)) n s HM.out.2.2.2).mono ?_
            rintro e w3 ⟨rfl, rfl⟩
            go_wp2_with fail
            go_loopg [14] i (fun gk kk wr => ∃ (j : Nat), j ≤ i ∧ gk = i - j ∧ kk = Value.int .i64 j ∧ Mid w wr FF G w.heap.size (w.heap.size + 1) ta tb (.slice (some ⟨gn, 0, none⟩) L cap2) cs z0 L)
            case atStart => exact ⟨0, by omega, rfl, rfl, ⟨HM2.out.duo.same (kp_drewN _ _ _), HM2.out.len, HM2.out.got, HM2.out.la, HM2.out.lb, HM2.out.fst⟩⟩
            case round =>
              clear HM2 hcB hcC
              obtain ⟨j, hj, rfl, rfl, hM3⟩ := hrel
              by_cases hji : j < i
              · obtain ⟨bx3, off3, e3, hcI, _⟩ := hin.at' hM3.duo.kp i hlt
                obtain ⟨bx4, off4, e4, hcJ, _⟩ := hin.at' hM3.duo.kp j (by omega)
                injection e3 with e3
                injection e3 with e3 e3'
                subst e3
                subst e3'
                injection e4 with e4
                injection e4 with e4 e4'
                subst e4
                subst e4'
                rw [HM.out.2.1] at hcI
                obtain ⟨t, ht⟩ : ∃ t, z0 j = t := ⟨_, rfl⟩
                rw [ht] at hcJ
                obtain ⟨d, hds⟩ : ∃ d, cs[j]? = some d := ⟨cs[j]'(by have := HM.out.1.len; omega), List.getElem?_eq_getElem _⟩
                have hgd := hM3.got j d hds
                rw [ht] at hgd
                have hsame := Got.same (.inr ⟨hs1, hs2, n, HM.out.2.2.2, rfl⟩) hgd hM3.duo.ra.many.2.1 (Int.natCast_nonneg n)
                obtain ⟨po5, cap5, hv5, hat5⟩ := hM3.duo.at
                obtain ⟨g5, e5, hcN5⟩ := hat5 i _ HM.out.2.2.1
                obtain ⟨g6, e6, hcN6⟩ := hat5 j _ hds
                rw [e5] at e6 hv5
                injection e6 with e6
                injection e6 with e6
                have hv6 := po_inj hv5
                rw [← hv6] at hcN5
                rw [← e6, ← hv6] at hcN6
                clear hv6
                have HM3 := Lib.hid (And.intro hM3 ht)
                obtain ⟨B, hB1⟩ : ∃ B, (s.toList == t.toList) = B := ⟨_, rfl⟩
                rw [hB1] at hsame
                have hjL : (j : Int) < L := by omega
                have hji2 : (j : Int) < i := by omega
                clear hM3 hgd hds hv5 hat5 e5 e6 ht
                clear hcsl hnt
                cases B
                · have hne : ¬ (n : Int) = d := by simpa using hsame
                  have hne2 : ¬ d = (n : Int) := fun e => hne e.symm
                  clear hsame
                  go_wp2_with fail
                  go_region
                  all_goals
                    go_wp2_with fail
                    go_roundg (i - (j + 1))
                    case measure => omega
                    case rel => exact ⟨j + 1, by omega, rfl, by go_num, ⟨HM3.out.1.duo.same (kp_drewN _ _ 1), HM3.out.1.len, HM3.out.1.got, HM3.out.1.la, HM3.out.1.lb, HM3.out.1.fst⟩⟩
                · obtain rfl : (n : Int) = d := by simpa using hsame
                  have hst : s = t := by
                    rw [beq_iff_eq, ByteArray.toList_eq, ByteArray.toList_eq] at hB1
                    exact ByteArray.ext (Array.toList_inj.1 hB1)
                  clear hsame hB1
                  have HM4 := Lib.hid HM3.out.1
                  clear HM3
                  subst hst
                  go_wp2_with fail
                  go_region
                  all_goals
                    go_wp2_with fail
                    go_roundg (i - (j + 1))
                    case measure => omega
                    case rel => exact ⟨j + 1, by omega, rfl, by go_num, ⟨HM4.out.duo.same (kp_drewN _ _ 1), HM4.out.len, HM4.out.got, HM4.out.la, HM4.out.lb, HM4.out.fst⟩⟩
              · obtain rfl : i = j := by omega
                have HM3 := Lib.hid hM3
                clear hM3
                go_wp2_with fail
                go_roundg (L - (i + 1))
                case measure => omega
                case rel => exact ⟨i + 1, _, _, by omega, rfl, by go_num, HM3.out⟩
        · obtain rfl : L = i := by omega
          have HM := Lib.hid hM
          clear hM
          go_wp2_with fail
          refine (number_old HM.out.duo.rb firstS (by decide) (by decide) 0 HM.out.fst).mono ?_
          rintro e w2 ⟨rfl, hr2, hk2⟩
          have hD2 := HM.out.duo.stepB hr2 (hk2.mono fun _ _ e => e.elim)
          have HD2 := Lib.hid hD2
          have hl2 := HM.out.la
          have hmod : (ta.length : Int) % 201 = ta.length := by omega
          have Hmod := Lib.hid hmod
          clear hD2 hr2 hk2 hmod
          go_wp2_with (first | (go_at_call 19; refine (len_any HD2.out.ra).mono ?_; rintro e w5 ⟨rfl, rfl⟩) | (go_at_call 31; refine (place_any _ _ 201 (by omega) (by omega) (by omega) (by omega)).mono ?_; rintro e w5 ⟨rfl, rfl⟩; rw [Hmod.out]) | (go_at_call 15; refine (awake_any _).mono ?_; rintro e w7 ⟨rfl, hk7⟩))
          go_ret
          exact ⟨rfl, (HD2.out.kp.trans' hk7).below _ (Nat.le_refl _) (fun _ e => e.elim)⟩

set_option maxHeartbeats 4000000 in
set_option maxRecDepth 100000 in
theorem walk_few (a0 : Option Addr) (len0 cap0 : Nat) (z0 : Nat → ByteArray) (w : World) (hh : StrIn w a0 len0 z0 ∧ len0 ≤ cap0 ∧ cap0 ≤ 9223372036854775807) (hfew : len0 ≤ 200) :
    Calls Try.prog 10 #[.slice a0 len0 cap0] w fun e w' => e = .returned (.bool true) ∧ Below w.heap.size w w' := by
  obtain ⟨h0, hcap, hcapm⟩ := hh
  have hlen0 := h0.1
  have hbi : ¬ (200 : Int) < len0 := by omega
  have hin := h0
  have hL2 : len0 ≤ 200 := by omega
  clear h0
  go_enter Try.func10, Try.ntmps10
  go_wp2_with fail
  refine (newAtoms_any w).mono ?_
  rintro e w1 ⟨rfl, rfl⟩
  go_wp2_with fail
  refine (newAtoms_any _).mono ?_
  rintro e w1 ⟨rfl, rfl⟩
  have hD := duo_new w
  go_wp2_with fail
  refine (number_new hD.rb firstS (by decide) (by decide) (by simp) (by simp)).mono ?_
  rintro e w1 ⟨rfl, hr, hk⟩
  have hD1 := hD.stepB hr hk
  have HD := Lib.hid hD1
  clear hD hD1 hr hk
  go_wp2_with fail
  have Hm : Hid (Mid w w1 (fun q => q = w.heap.size) (Ext (fun q => q = w.heap.size + 1) _ w1) w.heap.size (w.heap.size + 1) [] [firstS] (.slice none 0 0) [] z0 0) :=
    Lib.hid ⟨HD.out, rfl, fun i c h => by simp at h, by simp, by simp, rfl⟩
  go_loopg [5, 6] len0 (fun gk ns ii wr => ∃ (k : Nat) (F G : Nat → Prop) (ta tb : List ByteArray) (cs : List Int) (vs : Value), k ≤ len0 ∧ gk = len0 - k ∧ ii = Value.int .i64 k ∧ vs = ns ∧ Mid w wr F G w.heap.size (w.heap.size + 1) ta tb vs cs z0 k)
  case atStart => exact ⟨0, _, _, _, _, _, _, by omega, rfl, rfl, rfl, Hm.out⟩
  case round =>
    clear HD Hm
    obtain ⟨k, F, G, ta, tb, cs, vs, hk, rfl, rfl, rfl, hM⟩ := hrel
    by_cases hlt : k < len0
    · obtain ⟨bx, off, rfl, hc, hsz⟩ := hin.at' hM.duo.kp k hlt
      obtain ⟨s, hs⟩ : ∃ s, z0 k = s := ⟨_, rfl⟩
      rw [hs] at hc hsz
      have hla := hM.la
      have hlb := hM.lb
      obtain ⟨c, l, ta', hN⟩ := numIs_any ta s (by omega)
      obtain ⟨d, m, tb', hN2⟩ := numIs_any tb s (by omega)
      have hcl := hN.short
      have hc0 : -1 ≤ c := hcl.2.1
      have hc1 : c ≤ 1024 := hcl.2.2 (by omega)
      have HM := Lib.hid (And.intro hM (And.intro hs (And.intro hsz (And.intro hN hN2))))
      clear hM hs hsz hN hN2 hcl
      have hli : (k : Int) < len0 := by omega
      go_wp2_with fail
      refine (number_any HM.out.1.duo.ra s HM.out.2.2.1 HM.out.2.2.2.1).mono ?_
      rintro e w2 ⟨v1, rfl, hch1, hr1, hk1⟩
      have hD2 := HM.out.1.duo.stepA hr1 hk1
      obtain ⟨bx2, off2, e1, hcA, _⟩ := hin.at' hD2.kp k hlt
      have hcB : w2.cell? ⟨bx, off + k, none⟩ = some (.string s) := by
        injection e1 with e1
        injection e1 with e1 e2
        subst e1
        subst e2
        rw [← HM.out.2.1]
        exact hcA
      have HD2 := Lib.hid hD2
      clear hD2 hch1 hr1 hk1 hcA e1 hc
      go_wp2_with fail
      refine (number_any HD2.out.rb s HM.out.2.2.1 HM.out.2.2.2.2).mono ?_
      rintro e w3 ⟨v2, rfl, hch2, hr2, hk2⟩
      have hD3 := HD2.out.stepB hr2 hk2
      obtain ⟨po, cap2, hv, _⟩ := hD3.at
      have hcsl : cs.length = k := HM.out.1.len
      rw [hcsl] at hv
      subst hv
      have hrow := hD3.row
      rw [hcsl] at hrow
      have hoA : ∀ o, (w3.alloc o).ownsRow w.heap.size 3 1 (.slice po k cap2) k (cs.map (Value.int .i64)) := fun o => hrow.alloc o
      have hnA : ∀ i u, [Value.int .i64 c][i]? = some u → (w3.alloc (.cells #[Value.int .i64 c] 3)).cell? ((⟨w3.heap.size, 0, none⟩ : Addr).add i) = some u :=
        World.news_of_block (cs := #[Value.int .i64 c]) (heap_alloc_new w3 _)
      have hone : ∀ u ∈ [Value.int .i64 c], u.oneCell' = true := by intro u hu; simp at hu; subst hu; rfl
      have hcc1 : k + 1 ≤ maxLen := by unfold maxLen; omega
      have hcc2 : (k + 1) * 8 ≤ 140737488355328 := by omega
      obtain ⟨i0, hi, hz0, hz1, hz2⟩ := info_parts Try.infoInt
      have hbase : w.heap.size ≤ (w3.alloc (.cells #[Value.int .i64 c] 3)).heap.size := by have := hD3.kp.size; simp; omega
      have HD3 := Lib.hid (And.intro hD3 (And.intro hcc1 (And.intro hcc2 hcsl)))
      clear hD3 hcc1 hcc2 hcsl hrow hch2 hr2 hk2
      go_wp2_with (at_builtin; refine wpList_append_lies _ rfl _ _ 23 rfl w.heap.size 3 i0 (.int .i64 0) 1 8 Try.underlying23 hi hz0 hz1 hz2 rfl (by omega) (.slice po k cap2) k _ rfl (hoA _) ⟨w3.heap.size, 0, none⟩ 1 1 [.int .i64 c] rfl rfl hnA hone (by omega) HD3.out.2.1 HD3.out.2.2.1 hbase (w3.heap.size + 1) (by simp) ?_; intro g1 cap1 w4 hown4 hgrow4 hat4 hlt4)
      have hfin : Mid w w4 (Ext F wr w2) (Ext G w2 w3) w.heap.size (w.heap.size + 1) ta' tb' (.slice (some ⟨g1, 0, none⟩) (k + 1) cap1) (cs ++ [c]) z0 (k + 1) := by
        obtain ⟨hM, hs, hsz, hN, hN2⟩ := HM.out
        obtain ⟨hD3, _, _, hcsl⟩ := HD3.out
        have h1 := hN.got (by have := hM.la; omega)
        have h2 := hN2.got (by have := hM.lb; omega)
        refine ⟨?_, by simp [hcsl], ?_, ?_, ?_, h2.2.1 0 _ hM.fst⟩
        · have := hD3.push (x := c) (g := g1) (cap := cap1) (w2 := w4) (by rw [hcsl]; exact hown4) hgrow4 hat4
          rw [hcsl] at this
          exact this
        · intro i x hx
          by_cases hi : i < cs.length
          · rw [List.getElem?_append_left hi] at hx
            exact (hM.got i x hx).more h1.2.1
          · have hl := (List.getElem?_eq_some_iff.1 hx).1
            simp at hl
            rw [List.getElem?_append_right (by omega), show i - cs.length = 0 by omega] at hx
            simp at hx
            subst hx
            rw [show i = k by omega, hs]
            exact h1.1
        · have := h1.2.2; have := hM.la; omega
        · have := h2.2.2; have := hM.lb; omega
      have Hfin := Lib.hid hfin
      clear hfin hown4 hgrow4 hat4 hlt4 hoA hnA hone
      go_wp2_with fail
      go_roundg (len0 - (k + 1))
      case measure => omega
      case rel => exact ⟨k + 1, _, _, _, _, _, _, by omega, rfl, by go_num, rfl, Hfin.out⟩
    · obtain rfl : len0 = k := by omega
      have HM := Lib.hid hM
      clear hM
      go_wp2_with fail
      go_loopg [9] len0 (fun gk ii wr => ∃ (i : Nat) (F G : Nat → Prop), i ≤ len0 ∧ gk = len0 - i ∧ ii = Value.int .i64 i ∧ Mid w wr F G w.heap.size (w.heap.size + 1) ta tb vs cs z0 len0)
      case atStart => exact ⟨0, _, _, by omega, rfl, rfl, HM.out⟩
      case round =>
        clear HM
        obtain ⟨i, F, G, hi, rfl, rfl, hM⟩ := hrel
        by_cases hlt : i < len0
        · obtain ⟨bx, off, rfl, hc, hsz⟩ := hin.at' hM.duo.kp i hlt
          obtain ⟨s, hs⟩ : ∃ s, z0 i = s := ⟨_, rfl⟩
          rw [hs] at hc hsz
          have hcsl := hM.len
          obtain ⟨c, hcs⟩ : ∃ c, cs[i]? = some c := ⟨cs[i], List.getElem?_eq_getElem (by omega)⟩
          have hgot := hM.got i c hcs
          rw [hs] at hgot
          have hli : (i : Int) < len0 := by omega
          have hla := hM.la
          obtain ⟨po, cap2, hv, hat⟩ := hM.duo.at
          rw [hcsl] at hv
          subst hv
          obtain ⟨gn, rfl, _⟩ := hat i c hcs
          rcases hgot with ⟨hbad, rfl⟩ | ⟨hs1, hs2, n, hn, rfl⟩
          · have HM := Lib.hid (And.intro hM (And.intro hs (And.intro hcs hbad)))
            clear hM hs hcs hbad hat
            go_wp2_with fail
            refine (number_bad _ s wr hsz HM.out.2.2.2).mono ?_
            rintro e w2 ⟨v1, rfl, hch1, hk1⟩
            obtain ⟨g1, rfl⟩ := hch1.out.form
            have hD2 := HM.out.1.duo.same hk1
            obtain ⟨bx2, off2, e1, hcA, _⟩ := hin.at' hD2.kp i hlt
            have hcB : w2.cell? ⟨bx, off + i, none⟩ = some (.string s) := by
              injection e1 with e1
              injection e1 with e1 e2
              subst e1
              subst e2
              rw [← HM.out.2.1]
              exact hcA
            obtain ⟨po3, cap3, hv3, hat3⟩ := hD2.at
            obtain ⟨gn3, e3, hcN⟩ := hat3 i _ HM.out.2.2.1
            have hcC : w2.cell? ⟨gn, i, none⟩ = some (.int .i64 (-1)) := by
              rw [e3] at hv3
              rw [po_inj hv3]
              exact hcN
            have HM2 : Hid (Mid w w2 F G w.heap.size (w.heap.size + 1) ta tb (.slice (some ⟨gn, 0, none⟩) len0 cap2) cs z0 len0) := Lib.hid ⟨hD2, HM.out.1.len, HM.out.1.got, HM.out.1.la, HM.out.1.lb, HM.out.1.fst⟩
            have hbad := HM.out.2.2.2
            clear hch1 hk1 hD2 e1 hcA hv3 hat3 hcN e3 hc
            have hszm : (s.size : Int) ≤ 9223372036854775807 := by unfold maxLen at hsz; omega
            by_cases hz : s.size = 0
            · have f1 := str_empty hz
              have f2 : s.toList.isEmpty = true := by rw [f1]; rfl
              clear hbad hz
              go_wp2_with fail
              go_quiet (fail)
              go_wp2_with fail
              go_roundg (len0 - (i + 1))
              case measure => omega
              case rel =>
                refine ⟨i + 1, _, _, by omega, rfl, by go_num, ⟨HM2.out.duo.same (kp_drewN _ _ _), HM2.out.len, HM2.out.got, HM2.out.la, HM2.out.lb, HM2.out.fst⟩⟩
            · have f1 := str_full (s := s) (by omega)
              have f2 := str_full2 (s := s) (by omega)
              have f3 : ¬ (s.size : Int) ≤ 255 := by omega
              clear hbad hz
              go_wp2_with fail
              go_quiet (fail)
              go_wp2_with fail
              go_roundg (len0 - (i + 1))
              case measure => omega
              case rel =>
                refine ⟨i + 1, _, _, by omega, rfl, by go_num, ⟨HM2.out.duo.same (kp_drewN _ _ _), HM2.out.len, HM2.out.got, HM2.out.la, HM2.out.lb, HM2.out.fst⟩⟩
          · have HM := Lib.hid (And.intro hM (And.intro hs (And.intro hcs hn)))
            have hnt := (List.getElem?_eq_some_iff.1 hn).1
            clear hM hs hcs hn hat
            go_wp2_with fail
            refine (number_old HM.out.1.duo.ra s hs1 hs2 n HM.out.2.2.2).mono ?_
            rintro e w2 ⟨rfl, hr2, hk2⟩
            have hD2 := HM.out.1.duo.stepA hr2 (hk2.mono fun _ _ e => e.elim)
            obtain ⟨bx2, off2, e1, hcA, _⟩ := hin.at' hD2.kp i hlt
            have hcB : w2.cell? ⟨bx, off + i, none⟩ = some (.string s) := by
              injection e1 with e1
              injection e1 with e1 e2
              subst e1
              subst e2
              rw [← HM.out.2.1]
              exact hcA
            obtain ⟨po3, cap3, hv3, hat3⟩ := hD2.at
            obtain ⟨gn3, e3, hcN⟩ := hat3 i _ HM.out.2.2.1
            have hcC : w2.cell? ⟨gn, i, none⟩ = some (.int .i64 n) := by
              rw [e3] at hv3
              rw [po_inj hv3]
              exact hcN
            obtain ⟨FF, hFF⟩ : ∃ FF, Ext F wr w2 = FF := ⟨_, rfl⟩
            rw [hFF] at hD2
            have HM2 : Hid (Mid w w2 FF G w.heap.size (w.heap.size + 1) ta tb (.slice (some ⟨gn, 0, none⟩) len0 cap2) cs z0 len0) := Lib.hid ⟨hD2, HM.out.1.len, HM.out.1.got, HM.out.1.la, HM.out.1.lb, HM.out.1.fst⟩
            clear hr2 hk2 hD2 e1 hcA hv3 hat3 hcN e3 hc hFF
            have f1 := str_full hs1
            have f2 := str_full2 hs1
            have f3 : (s.size : Int) ≤ 255 := by omega
            go_wp2_with fail
            go_quiet (fail)
            go_wp2_with fail
            refine (name_ok (HM2.out.duo.ra.kp (kp_drewN (fun _ => False) w2 _) (fun _ _ e => e)) n s HM.out.2.2.2).mono ?_
            rintro e w3 ⟨rfl, rfl⟩
            go_wp2_with fail
            go_loopg [14] i (fun gk kk wr => ∃ (j : Nat), j ≤ i ∧ gk = i - j ∧ kk = Value.int .i64 j ∧ Mid w wr FF G w.heap.size (w.heap.size + 1) ta tb (.slice (some ⟨gn, 0, none⟩) len0 cap2) cs z0 len0)
            case atStart => exact ⟨0, by omega, rfl, rfl, ⟨HM2.out.duo.same (kp_drewN _ _ _), HM2.out.len, HM2.out.got, HM2.out.la, HM2.out.lb, HM2.out.fst⟩⟩
            case round =>
              clear HM2 hcB hcC
              obtain ⟨j, hj, rfl, rfl, hM3⟩ := hrel
              by_cases hji : j < i
              · obtain ⟨bx3, off3, e3, hcI, _⟩ := hin.at' hM3.duo.kp i hlt
                obtain ⟨bx4, off4, e4, hcJ, _⟩ := hin.at' hM3.duo.kp j (by omega)
                injection e3 with e3
                injection e3 with e3 e3'
                subst e3
                subst e3'
                injection e4 with e4
                injection e4 with e4 e4'
                subst e4
                subst e4'
                rw [HM.out.2.1] at hcI
                obtain ⟨t, ht⟩ : ∃ t, z0 j = t := ⟨_, rfl⟩
                rw [ht] at hcJ
                obtain ⟨d, hds⟩ : ∃ d, cs[j]? = some d := ⟨cs[j]'(by have := HM.out.1.len; omega), List.getElem?_eq_getElem _⟩
                have hgd := hM3.got j d hds
                rw [ht] at hgd
                have hsame := Got.same (.inr ⟨hs1, hs2, n, HM.out.2.2.2, rfl⟩) hgd hM3.duo.ra.many.2.1 (Int.natCast_nonneg n)
                obtain ⟨po5, cap5, hv5, hat5⟩ := hM3.duo.at
                obtain ⟨g5, e5, hcN5⟩ := hat5 i _ HM.out.2.2.1
                obtain ⟨g6, e6, hcN6⟩ := hat5 j _ hds
                rw [e5] at e6 hv5
                injection e6 with e6
                injection e6 with e6
                have hv6 := po_inj hv5
                rw [← hv6] at hcN5
                rw [← e6, ← hv6] at hcN6
                clear hv6
                have HM3 := Lib.hid (And.intro hM3 ht)
                obtain ⟨B, hB1⟩ : ∃ B, (s.toList == t.toList) = B := ⟨_, rfl⟩
                rw [hB1] at hsame
                have hjL : (j : Int) < len0 := by omega
                have hji2 : (j : Int) < i := by omega
                clear hM3 hgd hds hv5 hat5 e5 e6 ht
                clear hcsl hnt
                cases B
                · have hne : ¬ (n : Int) = d := by simpa using hsame
                  have hne2 : ¬ d = (n : Int) := fun e => hne e.symm
                  clear hsame
                  go_wp2_with fail
                  go_region
                  all_goals
                    go_wp2_with fail
                    go_roundg (i - (j + 1))
                    case measure => omega
                    case rel => exact ⟨j + 1, by omega, rfl, by go_num, ⟨HM3.out.1.duo.same (kp_drewN _ _ 1), HM3.out.1.len, HM3.out.1.got, HM3.out.1.la, HM3.out.1.lb, HM3.out.1.fst⟩⟩
                · obtain rfl : (n : Int) = d := by simpa using hsame
                  have hst : s = t := by
                    rw [beq_iff_eq, ByteArray.toList_eq, ByteArray.toList_eq] at hB1
                    exact ByteArray.ext (Array.toList_inj.1 hB1)
                  clear hsame hB1
                  have HM4 := Lib.hid HM3.out.1
                  clear HM3
                  subst hst
                  go_wp2_with fail
                  go_region
                  all_goals
                    go_wp2_with fail
                    go_roundg (i - (j + 1))
                    case measure => omega
                    case rel => exact ⟨j + 1, by omega, rfl, by go_num, ⟨HM4.out.duo.same (kp_drewN _ _ 1), HM4.out.len, HM4.out.got, HM4.out.la, HM4.out.lb, HM4.out.fst⟩⟩
              · obtain rfl : i = j := by omega
                have HM3 := Lib.hid hM3
                clear hM3
                go_wp2_with fail
                go_roundg (len0 - (i + 1))
                case measure => omega
                case rel => exact ⟨i + 1, _, _, by omega, rfl, by go_num, HM3.out⟩
        · obtain rfl : len0 = i := by omega
          have HM := Lib.hid hM
          clear hM
          go_wp2_with fail
          refine (number_old HM.out.duo.rb firstS (by decide) (by decide) 0 HM.out.fst).mono ?_
          rintro e w2 ⟨rfl, hr2, hk2⟩
          have hD2 := HM.out.duo.stepB hr2 (hk2.mono fun _ _ e => e.elim)
          have HD2 := Lib.hid hD2
          have hl2 := HM.out.la
          have hmod : (ta.length : Int) % 201 = ta.length := by omega
          have Hmod := Lib.hid hmod
          clear hD2 hr2 hk2 hmod
          go_wp2_with (first | (go_at_call 19; refine (len_any HD2.out.ra).mono ?_; rintro e w5 ⟨rfl, rfl⟩) | (go_at_call 31; refine (place_any _ _ 201 (by omega) (by omega) (by omega) (by omega)).mono ?_; rintro e w5 ⟨rfl, rfl⟩; rw [Hmod.out]) | (go_at_call 15; refine (awake_any _).mono ?_; rintro e w7 ⟨rfl, hk7⟩))
          go_ret
          exact ⟨rfl, (HD2.out.kp.trans' hk7).below _ (Nat.le_refl _) (fun _ e => e.elim)⟩

theorem walk (a0 : Option Addr) (len0 cap0 : Nat) (z0 : Nat → ByteArray) (w : World) (hh : StrIn w a0 len0 z0 ∧ len0 ≤ cap0 ∧ cap0 ≤ 9223372036854775807) :
    Calls Try.prog 10 #[.slice a0 len0 cap0] w fun e w' => e = .returned (.bool true) ∧ Below w.heap.size w w' := by
  by_cases h : 200 < len0
  · exact walk_big a0 len0 cap0 z0 w hh h
  · exact walk_few a0 len0 cap0 z0 w hh (by omega)

set_option maxRecDepth 100000 in
theorem lifted (os : Os) (started : os.Started) (H : Type) (enc : TypeId × Value → H) :
    ReturnsInHanded {} Try.checked os 10 .any (Rows.wordTablesSpec.pre6 enc Try.prog Try.f10 Rows.wordTablesRow.domain false) (Rows.wordTablesSpec.post enc Try.prog Try.f10 false true false false) := by
  refine returnsInHanded_of_change (C := Try.checked) own started (by kernel_rfl) Try.func10
    (ChangeSpec.witness6 (enc := enc) (C := Try.checked) false ⟨#[], #[.slice none 0 0], []⟩ 8 (by kernel_rfl) (by kernel_rfl) (by kernel_rfl) (by kernel_rfl)) ?_
  intro W base args ds gs before hval0 hW hcnd _
  have hval : ∀ (j : Nat) t v, Try.f10.params[j]? = some t → args[j]? = some v → Value.okWide Try.prog W .any base t v := hval0
  have hW' := hW
  obtain ⟨p, q, hA0, hV, rfl, hfz, hnd⟩ := hW
  have hA : DataW.TrodAll enc Try.prog W 0 (fun _ => true) true Try.f10.params.toList args.toList ds p := hA0
  rw [Try.params10] at hA hval
  obtain ⟨v0, vs0, d0, ds0, p0, q0, hargs, rfl, rfl, h0, r0⟩ := trodAll_cons hA
  obtain ⟨rfl, rfl, rfl⟩ := trodAll_nil r0
  obtain rfl : args = #[v0] := by cases args; simp_all
  obtain ⟨rfl, rfl⟩ := trodVars_none hV
  obtain ⟨a0, len0, cap0, rfl⟩ := okWide_slice Try.underlying22 (hval 0 22 v0 rfl rfl)
  have k0 := h0
  have lt0 : ∀ x ∈ p0, x.block < W.heap.size := by obtain ⟨m, hm⟩ := k0; exact DataW.trod_lt m _ _ _ hm
  obtain ⟨z0, w0⟩ : ∃ zs : Nat → ByteArray, StrIn W a0 len0 zs ∧ len0 ≤ cap0 ∧ cap0 ≤ 9223372036854775807 := by
    obtain ⟨fuel, hf⟩ := h0
    rcases Go.Deep.open_strs Try.underlying22 Try.underlying9 (by kernel_rfl) hf with ⟨hcs, _⟩ | ⟨x, l, c, m, Sx, hcs, _, hl, hm, hmm, _, hcell⟩
    · simp [Value.cells] at hcs
      obtain ⟨rfl, rfl, rfl⟩ := hcs
      exact ⟨fun _ => ByteArray.empty, ⟨by unfold StrIn; exact ⟨by omega, fun k hk => by omega⟩, by omega, by omega⟩⟩
    · simp [Value.cells] at hcs
      obtain ⟨rfl, rfl, rfl⟩ := hcs
      exact ⟨Sx, ⟨strIn_of (by omega) (fun k hk => hcell k (by rw [hmm]; split <;> omega)), hl, by unfold maxLen at hm; omega⟩⟩
  clear hA0 hval0
  refine (walk a0 len0 cap0 z0 W w0).mono fun e W' ⟨he, bel⟩ => ?_
  subst he
  exact ⟨_, rfl, _, _, _, [], _, [], hW', trodAll_mk1 (shut_bool Try.underlying4 _), (trodAll_cons_mk (Below.trod laidOut (by kernel_rfl) (of_decide_eq_true (by kernel_rfl)) k0 bel lt0) trodAll_mk0), rfl, bel.frame _, fun h => by cases h⟩

theorem over : Rows.wordTablesRow.holds Try.pinned (OpenSpec.ofChange Rows.wordTablesSpec) :=
  OpenClaim.holds_of_wide 10 Try.f10 rfl rfl rfl rfl rfl rfl rfl ⟨rfl, rfl, rfl, rfl, rfl⟩ rfl rfl rfl rfl rfl (by kernel_rfl) Try.func10 (by kernel_rfl)
    (of_decide_eq_true (by kernel_rfl)) (by unfold Func.isWrapper; first | (rw [if_pos (by decide +kernel)]; kernel_rfl) | (rw [if_neg (by decide +kernel)]; exact ⟨rfl, rfl⟩))
    (fun os started H enc _ => lifted os started H enc)

theorem proved : Rows.WordTablesSaid := over
#print axioms proved
end Go.Proofs.Ytmghneglfnkihaa.wordTables
