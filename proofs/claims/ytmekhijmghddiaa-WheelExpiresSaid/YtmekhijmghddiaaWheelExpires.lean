/- WheelExpires: each timer expires in just the Tick that reaches its time, unless it was cancelled ahead of that; none expires twice; at every three slices of ints, no condition. -/
import Derived.Test.YtmekhijmghddiaaRows
import Derived.Test.YtmekhijmghddiaaWhAt
import Derived.WalkKit
import Derived.ProofKit
import Derived.OpenShut
import Derived.ShutString
import Derived.ChangeOld
import Derived.Below
import Derived.Deep.Strs
namespace Go.Proofs.Ytmekhijmghddiaa.wheelExpires
open Go.ChangeShapes Go.WideShapes Go.ChangeAt Go.RowKit
open Go.ChangeMaps (open_string shut_string)
set_option linter.unusedVariables false

theorem own : ownKnob Try.prog.godebug = none := by kernel_rfl
theorem laidOut : laidOutB Try.prog = true := by kernel_rfl

theorem in_without {ts : List Tm} {k : Nat} {x : Tm} : x ∈ without ts (k : Nat) ↔ x ∈ ts ∧ x.id ≠ k := by
  unfold without
  rw [List.mem_filter]
  constructor
  · rintro ⟨h1, h2⟩
    refine ⟨h1, fun e => ?_⟩
    simp [e] at h2
  · rintro ⟨h1, h2⟩
    refine ⟨h1, ?_⟩
    simp
    omega
theorem get_of_lt {l : List Int} {k : Nat} (h : k < l.length) : ∃ x, l[k]? = some x := ⟨l[k], List.getElem?_eq_getElem h⟩
theorem drop_cons {o : List Tm} {j : Nat} (h : j < o.length) : ∃ a, o[j]? = some a ∧ o.drop j = a :: o.drop (j + 1) := ⟨o[j], List.getElem?_eq_getElem h, List.drop_eq_getElem_cons h⟩

set_option maxHeartbeats 32000000 in
set_option maxRecDepth 100000 in
theorem walk_big (a0 : Option Addr) (len0 cap0 : Nat) (z0 : Nat → Int) (a1 : Option Addr) (len1 cap1 : Nat) (z1 : Nat → Int) (a2 : Option Addr) (len2 cap2 : Nat) (z2 : Nat → Int) (w : World)
    (h0 : InRow w a0 len0 z0 ∧ len0 ≤ cap0 ∧ cap0 ≤ 9223372036854775807) (h1 : InRow w a1 len1 z1) (h2 : InRow w a2 len2 z2) (hgt : 500 < len0) :
    Calls Try.prog 5 #[.slice a0 len0 cap0, .slice a1 len1 cap1, .slice a2 len2 cap2] w fun e w' => e = .returned (.bool true) ∧ Below w.heap.size w w' := by
  have hc1 := h0.2.1
  have hc2 := h0.2.2
  have hl0 := h0.1.1
  have hl1 := h1.1
  have hl2 := h2.1
  have HI := Lib.hid (And.intro h0.1 (And.intro h1 h2))
  have HNW := Lib.hid (show Calls Try.prog 9 #[.int .i64 500] w _ from g_new w 500 (by omega) (by omega))
  clear h0 h1 h2
  have hgt2 : (500 : Int) < len0 := by omega
  have hc3 : (500 : Int) ≤ cap0 := by omega
  go_enter Try.func5, Try.ntmps5
  go_wp2_with fail
  refine HNW.out.mono ?_
  rintro e w1 hg1
  obtain ⟨b, rfl, h1⟩ := at_new hg1
  have H1 := Lib.hid h1
  clear h1 hg1 HNW
  go_wp2_with fail
  go_loopg [9, 10, 11, 12, 13] 500 (fun gk s9 s10 s11 s12 s13 wr => ∃ (i : Nat) (ts : List Tm) (l : List Int) (v : Value), i ≤ 500 ∧ gk = 500 - i ∧ s10 = .int .i64 (i : Nat) ∧ s9 = v ∧ ts.length = i ∧ l.length = i ∧ (∀ t ∈ ts, t.due < 5000) ∧ AtIs (fun t => t ∈ ts) l ∧ WhAt w wr b 0 i ts v l)
  case atStart => exact ⟨0, [], [], _, by omega, rfl, rfl, rfl, rfl, rfl, fun t ht => by simp at ht, ⟨fun t ht => by simp at ht, fun k hk => by simp at hk⟩, H1.out⟩
  case round => as_aux_lemma =>
    obtain ⟨i, ts, l, v, hi, rfl, rfl, hv, hts, hll, hdue, hat, hB⟩ := hrel
    obtain rfl := hv.symm
    clear H1
    have hi500 : i ≤ 500 := by omega
    by_cases hlt : i < 500
    · have hli : (i : Int) < 500 := by omega
      obtain ⟨b0, off0, rfl, c0, c1, c2⟩ := HI.out.1.at' hB.kp i (by omega)
      obtain ⟨x, hx⟩ : ∃ x, z0 i = x := ⟨_, rfl⟩
      rw [hx] at c0 c1 c2
      obtain ⟨N, hN, hN2⟩ : ∃ K : Nat, x % 5000 = K ∧ K < 5000 := ⟨(x % 5000).toNat, by omega, by omega⟩
      have HN := Lib.hid hN
      have HS := Lib.hid (at_start hB N 0 (by omega) (by omega) (by omega) (by omega))
      have HK := Lib.hid (And.intro hts (And.intro hll (And.intro hdue hat)))
      obtain ⟨po, cap, rfl⟩ := hB.row.form
      obtain ⟨LL, hLL⟩ : ∃ m, l.length = m := ⟨_, rfl⟩
      have HLL := Lib.hid hLL
      rw [hLL] at HS ⊢
      clear hN hx hB hts hll hdue hat hLL
      go_wp2_with fail
      refine (place_any _ x 5000 c1 c2 (by omega) (by omega)).mono ?_
      rintro e w' ⟨rfl, rfl⟩
      rw [HN.out]
      clear c0 c1 c2
      go_wp2_with fail
      refine HS.out.mono ?_
      rintro e w3 ⟨rfl, g, h3⟩
      rw [Nat.zero_add N] at h3
      obtain ⟨g4, cap4, w4, hr4, ho4, hk4, hg4, -⟩ := ints_push h3.row (by have := HK.out.2.1; omega) (N : Int)
      have h4 := h3.turned ho4 hk4 (fun q hq => by
        have : g4 = q := by injection hq
        subst this
        exact hg4)
      rw [HLL.out] at hr4
      have H4 := Lib.hid (And.intro hr4 h4)
      clear h3 hr4 ho4 hk4 hg4 h4 HS
      go_wp2_with (at_builtin; refine wpList_run rfl _ _ 60 rfl (.slice po LL cap) (.slice (some ⟨w3.heap.size, 0, none⟩) 1 1) rfl rfl _ w4 H4.out.1 ?_)
      go_roundg (500 - (i + 1))
      case measure => omega
      case rel =>
        refine ⟨i + 1, _, _, _, by omega, rfl, by go_num, by rw [← HLL.out], by rw [List.length_append, HK.out.1]; rfl, by rw [List.length_append, HK.out.2.1]; rfl, fun t ht => ?_, ?_, H4.out.2⟩
        · rcases List.mem_append.1 ht with ht | ht
          · exact HK.out.2.2.1 t ht
          · have : t.due = N := by simp at ht; rw [ht]
            omega
        · exact (HK.out.2.2.2.snoc ⟨i, 0, N, g⟩ HK.out.2.1.symm).congr (fun t => by simp)
    · obtain rfl : 500 = i := by omega
      clear hlt hi
      obtain ⟨po, cap, rfl⟩ := hB.row.form
      rw [hll] at hB ⊢
      obtain ⟨M, hM⟩ : ∃ M, 500 = M := ⟨_, rfl⟩
      have hM500 : M ≤ 500 := by omega
      have hMi : (M : Int) ≤ 500 := by omega
      have hts2 : ts.length ≤ M := by omega
      have hll2 : l.length = M := by omega
      rw [hM] at hB ⊢
      have HB := Lib.hid (And.intro hts2 (And.intro hll2 (And.intro hdue (And.intro hat hB))))
      clear hts hll hdue hat hB hM hts2 hll2
      go_wp2_with fail
      go_loopg [14, 15, 16, 17] len1 (fun gk s14 s15 s16 s17 wr => ∃ (i : Nat) (ts : List Tm) (l : List Int), i ≤ len1 ∧ gk = len1 - i ∧ s14 = .int .i64 (i : Nat) ∧ ts.length ≤ M ∧ l.length = M ∧ (∀ t ∈ ts, t.due < 5000) ∧ AtIs (fun t => t ∈ ts) l ∧ WhAt w wr b 0 M ts (.slice po M cap) l)
      case atStart => exact ⟨0, ts, l, by omega, rfl, rfl, HB.out⟩
      case round => as_aux_lemma =>
        obtain ⟨i, ts, l, hi, rfl, rfl, hts, hll, hdue, hat, hB⟩ := hrel
        clear HB
        by_cases hlt : i < len1
        · have hli : (i : Int) < len1 := by omega
          by_cases hM0 : 0 < M
          · have hM0i : (0 : Int) < M := by omega
            obtain ⟨b0, off0, rfl, c0, c1, c2⟩ := HI.out.2.1.at' hB.kp i (by omega)
            obtain ⟨x, hx⟩ : ∃ x, z1 i = x := ⟨_, rfl⟩
            rw [hx] at c0 c1 c2
            obtain ⟨K, hK, hK2⟩ : ∃ K : Nat, x % (M : Int) = K ∧ K < M := ⟨(x % (M : Int)).toNat, by have := Int.emod_nonneg x (b := (M : Int)) (by omega); omega, by have := Int.emod_lt_of_pos x (b := (M : Int)) hM0i; have := Int.emod_nonneg x (b := (M : Int)) (by omega); omega⟩
            have HKK := Lib.hid hK
            obtain ⟨A, hA⟩ := get_of_lt (l := l) (k := K) (by omega)
            obtain ⟨g, cp, hform, hf1, hf2, hcellA⟩ := hB.row.get hA
            rw [hll] at hform hf1
            obtain ⟨rfl, rfl⟩ : po = some ⟨g, 0, none⟩ ∧ cap = cp := by
              injection hform with e1 _ e2
              exact ⟨e1, e2⟩
            have hcw : IntKind.i64.wrap (K : Int) = (K : Int) := IntWalk.i64_in _ (by omega)
            have hKM : (K : Int) < M := by omega
            have HK := Lib.hid (And.intro hts (And.intro hll (And.intro hdue (And.intro hat hA))))
            have hwf : (Lit.int .i64 (K : Int)).wf = true := wf_i64 (by omega) (by omega)
            cases hf : tmOf ts (K : Int) with
            | none =>
              have hA1 : A = -1 := by
                have := hat.2 K (by omega) (fun t ht e => by have := tmOf_none hf t ht; omega)
                rw [hA] at this
                exact Option.some.inj this
              subst hA1
              have HC := Lib.hid (at_cancel_none hB hwf hf)
              have HF := Lib.hid hf
              clear hK hx hB hts hll hdue hat hA hform hf hcellA
              go_wp2_with fail
              refine (place_any _ x (M : Int) c1 c2 hM0i (by omega)).mono ?_
              rintro e w' ⟨rfl, rfl⟩
              rw [HKK.out]
              clear c0 c1 c2
              go_wp2_with fail
              refine HC.out.mono ?_
              rintro e w3 ⟨⟨gE, rfl⟩, h3⟩
              obtain ⟨g5, cp5, e5, _, _, hc5⟩ := h3.row.get HK.out.2.2.2.2
              obtain rfl : g = g5 := by
                injection e5 with e5
                injection e5 with e5
                injection e5
              have fz5 := h3.row.fz
              have H3 := Lib.hid (show WhAt w w3 b 0 M ts (.slice (some ⟨g, 0, none⟩) l.length cap) l from by rw [HK.out.2.1]; exact h3)
              clear h3 e5 HC
              go_wp2_with fail
              go_quiet (fail)
              go_wp2_with fail
              go_roundg (len1 - (i + 1))
              case measure => omega
              case rel =>
                refine ⟨i + 1, ts, l.set K (-1), by omega, rfl, by go_num, HK.out.1, by rw [List.length_set]; exact HK.out.2.1, HK.out.2.2.1, (HK.out.2.2.2.1.strike K).congr (fun t => ⟨fun h => h.1, fun h => ⟨h, fun e => ?_⟩⟩), ?_⟩
                · have := tmOf_none HF.out t h; omega
                · have h9 := (H3.out.same (kp_drewN (Kp.refl _ w3) nq)).set K (-1)
                  rw [HK.out.2.1] at h9
                  exact h9
            | some t =>
              obtain ⟨ht1, ht2⟩ := tmOf_mem hf
              have htid : t.id = K := by omega
              have hA1 : A = (t.due : Int) := by
                have := hat.1 t ht1
                rw [htid, hA] at this
                exact Option.some.inj this
              obtain ⟨D, hD⟩ : ∃ D, t.due = D := ⟨_, rfl⟩
              rw [hD] at hA1
              subst hA1
              have HC := Lib.hid (at_cancel hB hwf hf)
              rw [hD, Nat.sub_zero] at HC
              have hDb : D ≤ 5000 := by have := hdue t ht1; omega
              clear hK hx hB hts hll hdue hat hA hform hf hcellA ht1 ht2 htid hD
              go_wp2_with fail
              refine (place_any _ x (M : Int) c1 c2 hM0i (by omega)).mono ?_
              rintro e w' ⟨rfl, rfl⟩
              rw [HKK.out]
              clear c0 c1 c2
              go_wp2_with fail
              refine HC.out.mono ?_
              rintro e w3 ⟨rfl, h3⟩
              obtain ⟨g5, cp5, e5, _, _, hc5⟩ := h3.row.get HK.out.2.2.2.2
              obtain rfl : g = g5 := by
                injection e5 with e5
                injection e5 with e5
                injection e5
              have fz5 := h3.row.fz
              have H3 := Lib.hid (show WhAt w w3 b 0 M (without ts (K : Int)) (.slice (some ⟨g, 0, none⟩) l.length cap) l from by rw [HK.out.2.1]; exact h3)
              clear h3 e5 HC
              go_wp2_with fail
              go_quiet (fail)
              go_wp2_with fail
              go_roundg (len1 - (i + 1))
              case measure => omega
              case rel =>
                refine ⟨i + 1, without ts (K : Int), l.set K (-1), by omega, rfl, by go_num, ?_, by rw [List.length_set]; exact HK.out.2.1, fun x hx => HK.out.2.2.1 x (in_without.1 hx).1, (HK.out.2.2.2.1.strike K).congr (fun x => in_without.symm), ?_⟩
                · have := List.length_filter_le (fun t : Tm => !decide ((t.id : Int) = (K : Int))) ts
                  have := HK.out.1
                  unfold without
                  omega
                · have h9 := (H3.out.same (kp_drewN (Kp.refl _ w3) nq)).set K (-1)
                  rw [HK.out.2.1] at h9
                  exact h9
          · have hM0i : ¬ (0 : Int) < M := by omega
            have HB := Lib.hid (And.intro hts (And.intro hll (And.intro hdue (And.intro hat hB))))
            clear hts hll hdue hat hB hlt
            go_wp2_with fail
            clear hM0i hli hM0
            go_loopg [18, 19, 20, 21, 22, 23, 24] (min len2 100) (fun gk s18 s19 s20 s21 s22 s23 s24 wr => ∃ (k nw : Nat) (ts : List Tm) (l : List Int), k ≤ min len2 100 ∧ gk = min len2 100 - k ∧ s19 = .int .i64 (k : Nat) ∧ s18 = .int .i64 (nw : Nat) ∧ nw ≤ 799 * k ∧ ts.length ≤ M ∧ l.length = M ∧ AtIs (fun t => t ∈ ts) l ∧ WhAt w wr b nw M ts (.slice po M cap) l)
            case atStart => exact ⟨0, 0, ts, l, by omega, rfl, rfl, rfl, by omega, HB.out.1, HB.out.2.1, HB.out.2.2.2.1, HB.out.2.2.2.2⟩
            case round => as_aux_lemma =>
              obtain ⟨k, nw, ts, l, hk, rfl, rfl, rfl, hnw, hts, hll, hat, hB⟩ := hrel
              clear HB
              have hk100 : k ≤ 100 := by omega
              have hk100i : (k : Int) ≤ 100 := by omega
              have hnb : (nw : Int) ≤ 79900 := by omega
              by_cases hltk : k < len2
              · have hlk : (k : Int) < len2 := by omega
                by_cases h100 : k < 100
                · have hlk2 : (k : Int) < 100 := by omega
                  obtain ⟨b0, off0, rfl, c0, c1, c2⟩ := HI.out.2.2.at' hB.kp k hltk
                  obtain ⟨x, hx⟩ : ∃ x, z2 k = x := ⟨_, rfl⟩
                  rw [hx] at c0 c1 c2
                  obtain ⟨N, hN, hN2⟩ : ∃ K : Nat, x % 800 = K ∧ K < 800 := ⟨(x % 800).toNat, by omega, by omega⟩
                  have HN := Lib.hid hN
                  have HT := Lib.hid (at_tick hB N (by omega) (by omega) (by omega))
                  obtain ⟨E, hE⟩ : ∃ E, nw + N = E := ⟨_, rfl⟩
                  rw [hE] at HT
                  have hE2 : (nw : Int) + (N : Int) = (E : Int) := by omega
                  have HE := Lib.hid (And.intro hE hE2)
                  have hEb : (E : Int) ≤ 80700 := by omega
                  have hEn : E ≤ 80700 := by omega
                  have HK := Lib.hid (And.intro hts (And.intro hll (And.intro hat (And.intro hB.ids hB.nodup))))
                  have hNb : (N : Int) < 800 := by omega
                  clear hN hx hB hts hll hat hE hE2
                  go_wp2_with fail
                  refine (place_any _ x 800 c1 c2 (by omega) (by omega)).mono ?_
                  rintro e w' ⟨rfl, rfl⟩
                  rw [HN.out]
                  clear c0 c1 c2
                  go_wp2_with fail
                  refine HT.out.mono ?_
                  rintro e w3 ⟨u, o, ts', rfl, hu, hapart, hd, h3⟩
                  obtain ⟨pu, cu, rfl⟩ := ownsW_form hu
                  have hol : o.length ≤ ts.length := hd.length HK.out.2.2.2.2
                  have hcu : (idsOf o).length ≤ cu ∧ cu ≤ 9223372036854775807 := by
                    rcases hu.2 with ⟨e, e0⟩ | ⟨g, cap, cur, e, hb, hg, e1, e2, e3, e4⟩
                    · injection e with _ e1 e2
                      subst e2
                      omega
                    · injection e with _ _ e2
                      subst e2
                      unfold maxLen at e3
                      omega
                  rw [idsOf_len] at hcu ⊢
                  have hu2 : Lw w3 (.slice pu o.length cu) (idsOf o) := by rw [idsOf_len] at hu; exact hu
                  have hts' : ts'.length ≤ M := by
                    rw [hd.rest]
                    have := List.length_filter_le (fun t : Tm => decide (E < t.due)) ts
                    have := HK.out.1
                    omega
                  have h4 : AtIs (fun t => t ∈ ts' ∨ t ∈ o) l := HK.out.2.2.1.congr (fun t => by
                    rw [hd.mem, hd.rest, List.mem_filter]
                    constructor
                    · intro h
                      by_cases h5 : t.due ≤ E
                      · exact .inr ⟨h, h5⟩
                      · exact .inl ⟨h, by simp; omega⟩
                    · rintro (h | h)
                      · exact h.1
                      · exact h.1)
                  have H3 := Lib.hid (And.intro h3 (And.intro hu2.rd (And.intro h4 (And.intro hapart hd))))
                  have hOb : o.length ≤ 500 := by have := HK.out.1; omega
                  have hcu1 := hcu.1
                  have hcu2 := hcu.2
                  clear hu hapart hd h3 hol hu2 h4 hcu HT
                  go_wp2_with fail
                  rw [HE.out.2]
                  go_loopg [22, 23] o.length (fun gk s22 s23 wr => ∃ (j : Nat) (last : Int) (l : List Int), j ≤ o.length ∧ gk = o.length - j ∧ s23 = .int .i64 (j : Nat) ∧ s22 = .int .i64 last ∧ -1 ≤ last ∧ (∀ t ∈ o.drop j, last ≤ (t.due : Int)) ∧ l.length = M ∧ AtIs (fun t => t ∈ ts' ∨ t ∈ o.drop j) l ∧
                    WhAt w wr b E M ts' (.slice po M cap) l ∧ Lr wr (.slice pu o.length cu) (idsOf o))
                  case atStart => exact ⟨0, -1, l, by omega, rfl, rfl, rfl, by omega, fun t _ => by omega, HK.out.2.1, by rw [List.drop_zero]; exact H3.out.2.2.1, H3.out.1, H3.out.2.1⟩
                  case round => as_aux_lemma =>
                    obtain ⟨j, last, l, hj, rfl, rfl, rfl, hlast1, hlast2, hll, hat, hB, hR⟩ := hrel
                    by_cases hjl : j < o.length
                    · have hji : (j : Int) < o.length := by omega
                      obtain ⟨a, ha, hdrop⟩ := drop_cons hjl
                      have hain : a ∈ ts ∧ a.due ≤ E := (H3.out.2.2.2.2.mem a).1 (List.mem_of_getElem? ha)
                      have haid := HK.out.2.2.2.1 a hain.1
                      have hA : l[a.id]? = some (a.due : Int) := hat.1 a (.inr (by rw [hdrop]; simp))
                      obtain ⟨g, cp, hform, hf1, hf2, hcellA⟩ := hB.row.get hA
                      rw [hll] at hform hf1
                      obtain ⟨rfl, rfl⟩ : po = some ⟨g, 0, none⟩ ∧ cap = cp := by
                        injection hform with e1 _ e2
                        exact ⟨e1, e2⟩
                      have hRs := hR
                      obtain ⟨pu2, cu2, eu, _, _, hcu⟩ := hR
                      obtain ⟨gu, ou, hpu, hcellu⟩ := hcu j (a.id : Int) (by unfold idsOf; rw [List.getElem?_map, ha]; rfl)
                      obtain rfl : pu = some ⟨gu, ou, none⟩ := by
                        injection eu with e1
                        rw [e1, hpu]
                      have hfz := hB.row.fz
                      have hl2 := hlast2 a (by rw [hdrop]; simp)
                      obtain ⟨I, hI⟩ : ∃ I, a.id = I := ⟨_, rfl⟩
                      obtain ⟨D, hD⟩ : ∃ I, a.due = I := ⟨_, rfl⟩
                      rw [hI] at hcellA hcellu haid hA
                      rw [hD] at hcellA hl2 hA
                      have hDE : ¬ (E : Int) < (D : Int) := by have := hain.2; omega
                      have hDE2 : ¬ E < D := by have := hain.2; omega
                      have hDl : ¬ (D : Int) < last := by omega
                      have hIM : (I : Int) < M := by omega
                      have hMI : ¬ (M : Int) ≤ (I : Int) := by omega
                      have hcwM : IntKind.i64.wrap (M : Int) = (M : Int) := IntWalk.i64_in _ (by omega)
                      have hMI2 : ¬ M ≤ I := by omega
                      have HA := Lib.hid (And.intro ha (And.intro hdrop (And.intro hI (And.intro hD (And.intro hat (And.intro hlast2 (And.intro hll (And.intro hRs hain))))))))
                      have HB9 := Lib.hid (show WhAt w _ b E M ts' (.slice (some ⟨g, 0, none⟩) l.length cap) l from by rw [hll]; exact hB)
                      have hgg : gu ≠ g := fun e => H3.out.2.2.2.1 gu rfl (by rw [e]; rfl)
                      have hgg2 : g ≠ gu := fun e => hgg e.symm
                      clear ha hdrop hain hA hform hB hll hat hRs eu hcu hI hD hlast2 hl2
                      go_wp2_with fail
                      go_roundg (o.length - (j + 1))
                      case measure => omega
                      case rel =>
                        refine ⟨j + 1, (D : Int), l.set I (-1), by omega, rfl, by go_num, rfl, by omega, fun t ht => ?_, by rw [List.length_set]; exact HA.out.2.2.2.2.2.2.1, ?_, ?_, ?_⟩
                        · have hs := H3.out.2.2.2.2.sorted
                          have hs2 : (o.drop j).Pairwise TmLt := hs.sublist (List.drop_sublist j o)
                          rw [HA.out.2.1, List.pairwise_cons] at hs2
                          have := hs2.1 t ht
                          have := HA.out.2.2.2.1
                          unfold TmLt at *
                          omega
                        · refine (HA.out.2.2.2.2.1.strike I).congr (fun t => ?_)
                          rw [HA.out.2.1]
                          have hinj : ∀ x ∈ ts, x.id = I → x = a := fun x hx e => id_inj HK.out.2.2.2.2 hx HA.out.2.2.2.2.2.2.2.2.1 (by rw [e, HA.out.2.2.1])
                          have hs2 : (o.drop j).Pairwise TmLt := H3.out.2.2.2.2.sorted.sublist (List.drop_sublist j o)
                          rw [HA.out.2.1, List.pairwise_cons] at hs2
                          constructor
                          · rintro ⟨h | h, hne⟩
                            · exact .inl h
                            · rcases List.mem_cons.1 h with rfl | h
                              · exact absurd HA.out.2.2.1 hne
                              · exact .inr h
                          · rintro (h | h)
                            · refine ⟨.inl h, fun e => ?_⟩
                              have h9 := h
                              rw [H3.out.2.2.2.2.rest, List.mem_filter] at h9
                              have := hinj t h9.1 e
                              subst this
                              have h10 := h9.2
                              have := HA.out.2.2.2.2.2.2.2.2.2
                              simp at h10
                              omega
                            · refine ⟨.inr (List.mem_cons_of_mem _ h), fun e => ?_⟩
                              have h9 : t ∈ o := List.mem_of_mem_drop h
                              have := hinj t ((H3.out.2.2.2.2.mem t).1 h9).1 e
                              subst this
                              exact tmLt_irrefl _ (hs2.1 _ h)
                        · have h9 := HB9.out.set I (-1)
                          rw [HA.out.2.2.2.2.2.2.1] at h9
                          exact h9
                        · exact HA.out.2.2.2.2.2.2.2.1.kp ((Kp.refl (fun q => q = g) _).setCell _ _ (.inl rfl)) (fun q hq e => by
                            have : gu = q := by injection hq
                            omega)
                    · obtain rfl : o.length = j := by omega
                      have hat2 : AtIs (fun t => t ∈ ts') l := hat.congr (fun t => by simp)
                      have HB9 := Lib.hid (And.intro hB (And.intro hll hat2))
                      have hM5 : (M : Int) ≤ 500 := by omega
                      clear hat hB hR hlast2 hjl hlast1
                      go_wp2_with fail
                      go_loopg [24] M (fun gk s24 wr' => ∃ q : Nat, q ≤ M ∧ gk = M - q ∧ s24 = .int .i64 (q : Nat) ∧ WhAt w wr' b E M ts' (.slice po M cap) l)
                      case atStart => exact ⟨0, by omega, rfl, rfl, HB9.out.1⟩
                      case round => as_aux_lemma =>
                        obtain ⟨q, hq, rfl, rfl, hB⟩ := hrel
                        by_cases hqM : q < M
                        · have hqi : (q : Int) < M := by omega
                          obtain ⟨A, hA⟩ := get_of_lt (l := l) (k := q) (by have := HB9.out.2.1; omega)
                          have hAcase : ¬ (0 ≤ A) ∨ (0 ≤ A ∧ ¬ A ≤ (E : Int)) := by
                            by_cases hex : ∃ t, t ∈ ts' ∧ t.id = q
                            · obtain ⟨t, ht1, ht2⟩ := hex
                              have h9 := HB9.out.2.2.1 t ht1
                              rw [ht2, hA] at h9
                              have h10 := Option.some.inj h9
                              rw [H3.out.2.2.2.2.rest, List.mem_filter] at ht1
                              have h11 := ht1.2
                              simp at h11
                              exact .inr ⟨by omega, by omega⟩
                            · have h9 := HB9.out.2.2.2 q (by have := HB9.out.2.1; omega) (fun t ht e => hex ⟨t, ht, e⟩)
                              rw [hA] at h9
                              have h10 := Option.some.inj h9
                              exact .inl (by omega)
                          obtain ⟨g, cp, hform, hf1, hf2, hcellA⟩ := hB.row.get hA
                          rw [HB9.out.2.1] at hform hf1
                          obtain ⟨rfl, rfl⟩ : po = some ⟨g, 0, none⟩ ∧ cap = cp := by
                            injection hform with e1 _ e2
                            exact ⟨e1, e2⟩
                          have HBB := Lib.hid hB
                          clear hA hform hB
                          rcases hAcase with hA1 | ⟨hA0, hA1⟩
                          · go_wp2_with fail
                            go_roundg (M - (q + 1))
                            case measure => omega
                            case rel => exact ⟨q + 1, by omega, rfl, by go_num, HBB.out⟩
                          · go_wp2_with fail
                            go_roundg (M - (q + 1))
                            case measure => omega
                            case rel => exact ⟨q + 1, by omega, rfl, by go_num, HBB.out⟩
                        · obtain rfl : M = q := by omega
                          have HBB := Lib.hid hB
                          clear hqM hB
                          go_wp2_with fail
                          go_roundg (min len2 100 - (k + 1))
                          case measure => omega
                          case rel => exact ⟨k + 1, E, ts', l, by omega, rfl, by go_num, rfl, by have := HE.out.1; omega, hts', HB9.out.2.1, HB9.out.2.2, HBB.out⟩
                · have hlk2 : ¬ (k : Int) < 100 := by omega
                  have H7 := Lib.hid hB
                  clear hB hts hll hat HI
                  go_wp2_with fail
                  refine (whAwake_any _).mono ?_
                  rintro e w7 ⟨rfl, hk7⟩
                  have H8 := Lib.hid (H7.out.same hk7).kp
                  clear hk7
                  go_wp2_with fail
                  go_ret
                  exact ⟨rfl, H8.out.below _ (Nat.le_refl _) (fun _ e => e.elim)⟩
              · have hlk : ¬ (k : Int) < len2 := by omega
                have H7 := Lib.hid hB
                clear hB hts hll hat HI
                go_wp2_with fail
                refine (whAwake_any _).mono ?_
                rintro e w7 ⟨rfl, hk7⟩
                have H8 := Lib.hid (H7.out.same hk7).kp
                clear hk7
                go_wp2_with fail
                go_ret
                exact ⟨rfl, H8.out.below _ (Nat.le_refl _) (fun _ e => e.elim)⟩
        · have hli : ¬ (i : Int) < len1 := by omega
          have HB := Lib.hid (And.intro hts (And.intro hll (And.intro hdue (And.intro hat hB))))
          clear hts hll hdue hat hB hlt
          go_wp2_with fail
          clear hli
          go_loopg [18, 19, 20, 21, 22, 23, 24] (min len2 100) (fun gk s18 s19 s20 s21 s22 s23 s24 wr => ∃ (k nw : Nat) (ts : List Tm) (l : List Int), k ≤ min len2 100 ∧ gk = min len2 100 - k ∧ s19 = .int .i64 (k : Nat) ∧ s18 = .int .i64 (nw : Nat) ∧ nw ≤ 799 * k ∧ ts.length ≤ M ∧ l.length = M ∧ AtIs (fun t => t ∈ ts) l ∧ WhAt w wr b nw M ts (.slice po M cap) l)
          case atStart => exact ⟨0, 0, ts, l, by omega, rfl, rfl, rfl, by omega, HB.out.1, HB.out.2.1, HB.out.2.2.2.1, HB.out.2.2.2.2⟩
          case round => as_aux_lemma =>
            obtain ⟨k, nw, ts, l, hk, rfl, rfl, rfl, hnw, hts, hll, hat, hB⟩ := hrel
            clear HB
            have hk100 : k ≤ 100 := by omega
            have hk100i : (k : Int) ≤ 100 := by omega
            have hnb : (nw : Int) ≤ 79900 := by omega
            by_cases hltk : k < len2
            · have hlk : (k : Int) < len2 := by omega
              by_cases h100 : k < 100
              · have hlk2 : (k : Int) < 100 := by omega
                obtain ⟨b0, off0, rfl, c0, c1, c2⟩ := HI.out.2.2.at' hB.kp k hltk
                obtain ⟨x, hx⟩ : ∃ x, z2 k = x := ⟨_, rfl⟩
                rw [hx] at c0 c1 c2
                obtain ⟨N, hN, hN2⟩ : ∃ K : Nat, x % 800 = K ∧ K < 800 := ⟨(x % 800).toNat, by omega, by omega⟩
                have HN := Lib.hid hN
                have HT := Lib.hid (at_tick hB N (by omega) (by omega) (by omega))
                obtain ⟨E, hE⟩ : ∃ E, nw + N = E := ⟨_, rfl⟩
                rw [hE] at HT
                have hE2 : (nw : Int) + (N : Int) = (E : Int) := by omega
                have HE := Lib.hid (And.intro hE hE2)
                have hEb : (E : Int) ≤ 80700 := by omega
                have hEn : E ≤ 80700 := by omega
                have HK := Lib.hid (And.intro hts (And.intro hll (And.intro hat (And.intro hB.ids hB.nodup))))
                have hNb : (N : Int) < 800 := by omega
                clear hN hx hB hts hll hat hE hE2
                go_wp2_with fail
                refine (place_any _ x 800 c1 c2 (by omega) (by omega)).mono ?_
                rintro e w' ⟨rfl, rfl⟩
                rw [HN.out]
                clear c0 c1 c2
                go_wp2_with fail
                refine HT.out.mono ?_
                rintro e w3 ⟨u, o, ts', rfl, hu, hapart, hd, h3⟩
                obtain ⟨pu, cu, rfl⟩ := ownsW_form hu
                have hol : o.length ≤ ts.length := hd.length HK.out.2.2.2.2
                have hcu : (idsOf o).length ≤ cu ∧ cu ≤ 9223372036854775807 := by
                  rcases hu.2 with ⟨e, e0⟩ | ⟨g, cap, cur, e, hb, hg, e1, e2, e3, e4⟩
                  · injection e with _ e1 e2
                    subst e2
                    omega
                  · injection e with _ _ e2
                    subst e2
                    unfold maxLen at e3
                    omega
                rw [idsOf_len] at hcu ⊢
                have hu2 : Lw w3 (.slice pu o.length cu) (idsOf o) := by rw [idsOf_len] at hu; exact hu
                have hts' : ts'.length ≤ M := by
                  rw [hd.rest]
                  have := List.length_filter_le (fun t : Tm => decide (E < t.due)) ts
                  have := HK.out.1
                  omega
                have h4 : AtIs (fun t => t ∈ ts' ∨ t ∈ o) l := HK.out.2.2.1.congr (fun t => by
                  rw [hd.mem, hd.rest, List.mem_filter]
                  constructor
                  · intro h
                    by_cases h5 : t.due ≤ E
                    · exact .inr ⟨h, h5⟩
                    · exact .inl ⟨h, by simp; omega⟩
                  · rintro (h | h)
                    · exact h.1
                    · exact h.1)
                have H3 := Lib.hid (And.intro h3 (And.intro hu2.rd (And.intro h4 (And.intro hapart hd))))
                have hOb : o.length ≤ 500 := by have := HK.out.1; omega
                have hcu1 := hcu.1
                have hcu2 := hcu.2
                clear hu hapart hd h3 hol hu2 h4 hcu HT
                go_wp2_with fail
                rw [HE.out.2]
                go_loopg [22, 23] o.length (fun gk s22 s23 wr => ∃ (j : Nat) (last : Int) (l : List Int), j ≤ o.length ∧ gk = o.length - j ∧ s23 = .int .i64 (j : Nat) ∧ s22 = .int .i64 last ∧ -1 ≤ last ∧ (∀ t ∈ o.drop j, last ≤ (t.due : Int)) ∧ l.length = M ∧ AtIs (fun t => t ∈ ts' ∨ t ∈ o.drop j) l ∧
                  WhAt w wr b E M ts' (.slice po M cap) l ∧ Lr wr (.slice pu o.length cu) (idsOf o))
                case atStart => exact ⟨0, -1, l, by omega, rfl, rfl, rfl, by omega, fun t _ => by omega, HK.out.2.1, by rw [List.drop_zero]; exact H3.out.2.2.1, H3.out.1, H3.out.2.1⟩
                case round => as_aux_lemma =>
                  obtain ⟨j, last, l, hj, rfl, rfl, rfl, hlast1, hlast2, hll, hat, hB, hR⟩ := hrel
                  by_cases hjl : j < o.length
                  · have hji : (j : Int) < o.length := by omega
                    obtain ⟨a, ha, hdrop⟩ := drop_cons hjl
                    have hain : a ∈ ts ∧ a.due ≤ E := (H3.out.2.2.2.2.mem a).1 (List.mem_of_getElem? ha)
                    have haid := HK.out.2.2.2.1 a hain.1
                    have hA : l[a.id]? = some (a.due : Int) := hat.1 a (.inr (by rw [hdrop]; simp))
                    obtain ⟨g, cp, hform, hf1, hf2, hcellA⟩ := hB.row.get hA
                    rw [hll] at hform hf1
                    obtain ⟨rfl, rfl⟩ : po = some ⟨g, 0, none⟩ ∧ cap = cp := by
                      injection hform with e1 _ e2
                      exact ⟨e1, e2⟩
                    have hRs := hR
                    obtain ⟨pu2, cu2, eu, _, _, hcu⟩ := hR
                    obtain ⟨gu, ou, hpu, hcellu⟩ := hcu j (a.id : Int) (by unfold idsOf; rw [List.getElem?_map, ha]; rfl)
                    obtain rfl : pu = some ⟨gu, ou, none⟩ := by
                      injection eu with e1
                      rw [e1, hpu]
                    have hfz := hB.row.fz
                    have hl2 := hlast2 a (by rw [hdrop]; simp)
                    obtain ⟨I, hI⟩ : ∃ I, a.id = I := ⟨_, rfl⟩
                    obtain ⟨D, hD⟩ : ∃ I, a.due = I := ⟨_, rfl⟩
                    rw [hI] at hcellA hcellu haid hA
                    rw [hD] at hcellA hl2 hA
                    have hDE : ¬ (E : Int) < (D : Int) := by have := hain.2; omega
                    have hDE2 : ¬ E < D := by have := hain.2; omega
                    have hDl : ¬ (D : Int) < last := by omega
                    have hIM : (I : Int) < M := by omega
                    have hMI : ¬ (M : Int) ≤ (I : Int) := by omega
                    have hcwM : IntKind.i64.wrap (M : Int) = (M : Int) := IntWalk.i64_in _ (by omega)
                    have hMI2 : ¬ M ≤ I := by omega
                    have HA := Lib.hid (And.intro ha (And.intro hdrop (And.intro hI (And.intro hD (And.intro hat (And.intro hlast2 (And.intro hll (And.intro hRs hain))))))))
                    have HB9 := Lib.hid (show WhAt w _ b E M ts' (.slice (some ⟨g, 0, none⟩) l.length cap) l from by rw [hll]; exact hB)
                    have hgg : gu ≠ g := fun e => H3.out.2.2.2.1 gu rfl (by rw [e]; rfl)
                    have hgg2 : g ≠ gu := fun e => hgg e.symm
                    clear ha hdrop hain hA hform hB hll hat hRs eu hcu hI hD hlast2 hl2
                    go_wp2_with fail
                    go_roundg (o.length - (j + 1))
                    case measure => omega
                    case rel =>
                      refine ⟨j + 1, (D : Int), l.set I (-1), by omega, rfl, by go_num, rfl, by omega, fun t ht => ?_, by rw [List.length_set]; exact HA.out.2.2.2.2.2.2.1, ?_, ?_, ?_⟩
                      · have hs := H3.out.2.2.2.2.sorted
                        have hs2 : (o.drop j).Pairwise TmLt := hs.sublist (List.drop_sublist j o)
                        rw [HA.out.2.1, List.pairwise_cons] at hs2
                        have := hs2.1 t ht
                        have := HA.out.2.2.2.1
                        unfold TmLt at *
                        omega
                      · refine (HA.out.2.2.2.2.1.strike I).congr (fun t => ?_)
                        rw [HA.out.2.1]
                        have hinj : ∀ x ∈ ts, x.id = I → x = a := fun x hx e => id_inj HK.out.2.2.2.2 hx HA.out.2.2.2.2.2.2.2.2.1 (by rw [e, HA.out.2.2.1])
                        have hs2 : (o.drop j).Pairwise TmLt := H3.out.2.2.2.2.sorted.sublist (List.drop_sublist j o)
                        rw [HA.out.2.1, List.pairwise_cons] at hs2
                        constructor
                        · rintro ⟨h | h, hne⟩
                          · exact .inl h
                          · rcases List.mem_cons.1 h with rfl | h
                            · exact absurd HA.out.2.2.1 hne
                            · exact .inr h
                        · rintro (h | h)
                          · refine ⟨.inl h, fun e => ?_⟩
                            have h9 := h
                            rw [H3.out.2.2.2.2.rest, List.mem_filter] at h9
                            have := hinj t h9.1 e
                            subst this
                            have h10 := h9.2
                            have := HA.out.2.2.2.2.2.2.2.2.2
                            simp at h10
                            omega
                          · refine ⟨.inr (List.mem_cons_of_mem _ h), fun e => ?_⟩
                            have h9 : t ∈ o := List.mem_of_mem_drop h
                            have := hinj t ((H3.out.2.2.2.2.mem t).1 h9).1 e
                            subst this
                            exact tmLt_irrefl _ (hs2.1 _ h)
                      · have h9 := HB9.out.set I (-1)
                        rw [HA.out.2.2.2.2.2.2.1] at h9
                        exact h9
                      · exact HA.out.2.2.2.2.2.2.2.1.kp ((Kp.refl (fun q => q = g) _).setCell _ _ (.inl rfl)) (fun q hq e => by
                          have : gu = q := by injection hq
                          omega)
                  · obtain rfl : o.length = j := by omega
                    have hat2 : AtIs (fun t => t ∈ ts') l := hat.congr (fun t => by simp)
                    have HB9 := Lib.hid (And.intro hB (And.intro hll hat2))
                    have hM5 : (M : Int) ≤ 500 := by omega
                    clear hat hB hR hlast2 hjl hlast1
                    go_wp2_with fail
                    go_loopg [24] M (fun gk s24 wr' => ∃ q : Nat, q ≤ M ∧ gk = M - q ∧ s24 = .int .i64 (q : Nat) ∧ WhAt w wr' b E M ts' (.slice po M cap) l)
                    case atStart => exact ⟨0, by omega, rfl, rfl, HB9.out.1⟩
                    case round => as_aux_lemma =>
                      obtain ⟨q, hq, rfl, rfl, hB⟩ := hrel
                      by_cases hqM : q < M
                      · have hqi : (q : Int) < M := by omega
                        obtain ⟨A, hA⟩ := get_of_lt (l := l) (k := q) (by have := HB9.out.2.1; omega)
                        have hAcase : ¬ (0 ≤ A) ∨ (0 ≤ A ∧ ¬ A ≤ (E : Int)) := by
                          by_cases hex : ∃ t, t ∈ ts' ∧ t.id = q
                          · obtain ⟨t, ht1, ht2⟩ := hex
                            have h9 := HB9.out.2.2.1 t ht1
                            rw [ht2, hA] at h9
                            have h10 := Option.some.inj h9
                            rw [H3.out.2.2.2.2.rest, List.mem_filter] at ht1
                            have h11 := ht1.2
                            simp at h11
                            exact .inr ⟨by omega, by omega⟩
                          · have h9 := HB9.out.2.2.2 q (by have := HB9.out.2.1; omega) (fun t ht e => hex ⟨t, ht, e⟩)
                            rw [hA] at h9
                            have h10 := Option.some.inj h9
                            exact .inl (by omega)
                        obtain ⟨g, cp, hform, hf1, hf2, hcellA⟩ := hB.row.get hA
                        rw [HB9.out.2.1] at hform hf1
                        obtain ⟨rfl, rfl⟩ : po = some ⟨g, 0, none⟩ ∧ cap = cp := by
                          injection hform with e1 _ e2
                          exact ⟨e1, e2⟩
                        have HBB := Lib.hid hB
                        clear hA hform hB
                        rcases hAcase with hA1 | ⟨hA0, hA1⟩
                        · go_wp2_with fail
                          go_roundg (M - (q + 1))
                          case measure => omega
                          case rel => exact ⟨q + 1, by omega, rfl, by go_num, HBB.out⟩
                        · go_wp2_with fail
                          go_roundg (M - (q + 1))
                          case measure => omega
                          case rel => exact ⟨q + 1, by omega, rfl, by go_num, HBB.out⟩
                      · obtain rfl : M = q := by omega
                        have HBB := Lib.hid hB
                        clear hqM hB
                        go_wp2_with fail
                        go_roundg (min len2 100 - (k + 1))
                        case measure => omega
                        case rel => exact ⟨k + 1, E, ts', l, by omega, rfl, by go_num, rfl, by have := HE.out.1; omega, hts', HB9.out.2.1, HB9.out.2.2, HBB.out⟩
              · have hlk2 : ¬ (k : Int) < 100 := by omega
                have H7 := Lib.hid hB
                clear hB hts hll hat HI
                go_wp2_with fail
                refine (whAwake_any _).mono ?_
                rintro e w7 ⟨rfl, hk7⟩
                have H8 := Lib.hid (H7.out.same hk7).kp
                clear hk7
                go_wp2_with fail
                go_ret
                exact ⟨rfl, H8.out.below _ (Nat.le_refl _) (fun _ e => e.elim)⟩
            · have hlk : ¬ (k : Int) < len2 := by omega
              have H7 := Lib.hid hB
              clear hB hts hll hat HI
              go_wp2_with fail
              refine (whAwake_any _).mono ?_
              rintro e w7 ⟨rfl, hk7⟩
              have H8 := Lib.hid (H7.out.same hk7).kp
              clear hk7
              go_wp2_with fail
              go_ret
              exact ⟨rfl, H8.out.below _ (Nat.le_refl _) (fun _ e => e.elim)⟩

set_option maxHeartbeats 32000000 in
set_option maxRecDepth 100000 in
theorem walk_small (a0 : Option Addr) (len0 cap0 : Nat) (z0 : Nat → Int) (a1 : Option Addr) (len1 cap1 : Nat) (z1 : Nat → Int) (a2 : Option Addr) (len2 cap2 : Nat) (z2 : Nat → Int) (w : World)
    (h0 : InRow w a0 len0 z0 ∧ len0 ≤ cap0 ∧ cap0 ≤ 9223372036854775807) (h1 : InRow w a1 len1 z1) (h2 : InRow w a2 len2 z2) (hgt : ¬ 500 < len0) :
    Calls Try.prog 5 #[.slice a0 len0 cap0, .slice a1 len1 cap1, .slice a2 len2 cap2] w fun e w' => e = .returned (.bool true) ∧ Below w.heap.size w w' := by
  have hc1 := h0.2.1
  have hc2 := h0.2.2
  have hl0 := h0.1.1
  have hl1 := h1.1
  have hl2 := h2.1
  have HI := Lib.hid (And.intro h0.1 (And.intro h1 h2))
  have HNW := Lib.hid (show Calls Try.prog 9 #[.int .i64 500] w _ from g_new w 500 (by omega) (by omega))
  clear h0 h1 h2
  have hgt2 : ¬ (500 : Int) < len0 := by omega
  go_enter Try.func5, Try.ntmps5
  go_wp2_with fail
  refine HNW.out.mono ?_
  rintro e w1 hg1
  obtain ⟨b, rfl, h1⟩ := at_new hg1
  have H1 := Lib.hid h1
  clear h1 hg1 HNW
  go_wp2_with fail
  go_loopg [9, 10, 11, 12, 13] len0 (fun gk s9 s10 s11 s12 s13 wr => ∃ (i : Nat) (ts : List Tm) (l : List Int) (v : Value), i ≤ len0 ∧ gk = len0 - i ∧ s10 = .int .i64 (i : Nat) ∧ s9 = v ∧ ts.length = i ∧ l.length = i ∧ (∀ t ∈ ts, t.due < 5000) ∧ AtIs (fun t => t ∈ ts) l ∧ WhAt w wr b 0 i ts v l)
  case atStart => exact ⟨0, [], [], _, by omega, rfl, rfl, rfl, rfl, rfl, fun t ht => by simp at ht, ⟨fun t ht => by simp at ht, fun k hk => by simp at hk⟩, H1.out⟩
  case round => as_aux_lemma =>
    obtain ⟨i, ts, l, v, hi, rfl, rfl, hv, hts, hll, hdue, hat, hB⟩ := hrel
    obtain rfl := hv.symm
    clear H1
    have hi500 : i ≤ 500 := by omega
    by_cases hlt : i < len0
    · have hli : (i : Int) < len0 := by omega
      obtain ⟨b0, off0, rfl, c0, c1, c2⟩ := HI.out.1.at' hB.kp i (by omega)
      obtain ⟨x, hx⟩ : ∃ x, z0 i = x := ⟨_, rfl⟩
      rw [hx] at c0 c1 c2
      obtain ⟨N, hN, hN2⟩ : ∃ K : Nat, x % 5000 = K ∧ K < 5000 := ⟨(x % 5000).toNat, by omega, by omega⟩
      have HN := Lib.hid hN
      have HS := Lib.hid (at_start hB N 0 (by omega) (by omega) (by omega) (by omega))
      have HK := Lib.hid (And.intro hts (And.intro hll (And.intro hdue hat)))
      obtain ⟨po, cap, rfl⟩ := hB.row.form
      obtain ⟨LL, hLL⟩ : ∃ m, l.length = m := ⟨_, rfl⟩
      have HLL := Lib.hid hLL
      rw [hLL] at HS ⊢
      clear hN hx hB hts hll hdue hat hLL
      go_wp2_with fail
      refine (place_any _ x 5000 c1 c2 (by omega) (by omega)).mono ?_
      rintro e w' ⟨rfl, rfl⟩
      rw [HN.out]
      clear c0 c1 c2
      go_wp2_with fail
      refine HS.out.mono ?_
      rintro e w3 ⟨rfl, g, h3⟩
      rw [Nat.zero_add N] at h3
      obtain ⟨g4, cap4, w4, hr4, ho4, hk4, hg4, -⟩ := ints_push h3.row (by have := HK.out.2.1; omega) (N : Int)
      have h4 := h3.turned ho4 hk4 (fun q hq => by
        have : g4 = q := by injection hq
        subst this
        exact hg4)
      rw [HLL.out] at hr4
      have H4 := Lib.hid (And.intro hr4 h4)
      clear h3 hr4 ho4 hk4 hg4 h4 HS
      go_wp2_with (at_builtin; refine wpList_run rfl _ _ 60 rfl (.slice po LL cap) (.slice (some ⟨w3.heap.size, 0, none⟩) 1 1) rfl rfl _ w4 H4.out.1 ?_)
      go_roundg (len0 - (i + 1))
      case measure => omega
      case rel =>
        refine ⟨i + 1, _, _, _, by omega, rfl, by go_num, by rw [← HLL.out], by rw [List.length_append, HK.out.1]; rfl, by rw [List.length_append, HK.out.2.1]; rfl, fun t ht => ?_, ?_, H4.out.2⟩
        · rcases List.mem_append.1 ht with ht | ht
          · exact HK.out.2.2.1 t ht
          · have : t.due = N := by simp at ht; rw [ht]
            omega
        · exact (HK.out.2.2.2.snoc ⟨i, 0, N, g⟩ HK.out.2.1.symm).congr (fun t => by simp)
    · obtain rfl : len0 = i := by omega
      clear hlt hi
      obtain ⟨po, cap, rfl⟩ := hB.row.form
      rw [hll] at hB ⊢
      obtain ⟨M, hM⟩ : ∃ M, len0 = M := ⟨_, rfl⟩
      have hM500 : M ≤ 500 := by omega
      have hMi : (M : Int) ≤ 500 := by omega
      have hts2 : ts.length ≤ M := by omega
      have hll2 : l.length = M := by omega
      rw [hM] at hB ⊢
      have HB := Lib.hid (And.intro hts2 (And.intro hll2 (And.intro hdue (And.intro hat hB))))
      clear hts hll hdue hat hB hM hts2 hll2
      go_wp2_with fail
      go_loopg [14, 15, 16, 17] len1 (fun gk s14 s15 s16 s17 wr => ∃ (i : Nat) (ts : List Tm) (l : List Int), i ≤ len1 ∧ gk = len1 - i ∧ s14 = .int .i64 (i : Nat) ∧ ts.length ≤ M ∧ l.length = M ∧ (∀ t ∈ ts, t.due < 5000) ∧ AtIs (fun t => t ∈ ts) l ∧ WhAt w wr b 0 M ts (.slice po M cap) l)
      case atStart => exact ⟨0, ts, l, by omega, rfl, rfl, HB.out⟩
      case round => as_aux_lemma =>
        obtain ⟨i, ts, l, hi, rfl, rfl, hts, hll, hdue, hat, hB⟩ := hrel
        clear HB
        by_cases hlt : i < len1
        · have hli : (i : Int) < len1 := by omega
          by_cases hM0 : 0 < M
          · have hM0i : (0 : Int) < M := by omega
            obtain ⟨b0, off0, rfl, c0, c1, c2⟩ := HI.out.2.1.at' hB.kp i (by omega)
            obtain ⟨x, hx⟩ : ∃ x, z1 i = x := ⟨_, rfl⟩
            rw [hx] at c0 c1 c2
            obtain ⟨K, hK, hK2⟩ : ∃ K : Nat, x % (M : Int) = K ∧ K < M := ⟨(x % (M : Int)).toNat, by have := Int.emod_nonneg x (b := (M : Int)) (by omega); omega, by have := Int.emod_lt_of_pos x (b := (M : Int)) hM0i; have := Int.emod_nonneg x (b := (M : Int)) (by omega); omega⟩
            have HKK := Lib.hid hK
            obtain ⟨A, hA⟩ := get_of_lt (l := l) (k := K) (by omega)
            obtain ⟨g, cp, hform, hf1, hf2, hcellA⟩ := hB.row.get hA
            rw [hll] at hform hf1
            obtain ⟨rfl, rfl⟩ : po = some ⟨g, 0, none⟩ ∧ cap = cp := by
              injection hform with e1 _ e2
              exact ⟨e1, e2⟩
            have hcw : IntKind.i64.wrap (K : Int) = (K : Int) := IntWalk.i64_in _ (by omega)
            have hKM : (K : Int) < M := by omega
            have HK := Lib.hid (And.intro hts (And.intro hll (And.intro hdue (And.intro hat hA))))
            have hwf : (Lit.int .i64 (K : Int)).wf = true := wf_i64 (by omega) (by omega)
            cases hf : tmOf ts (K : Int) with
            | none =>
              have hA1 : A = -1 := by
                have := hat.2 K (by omega) (fun t ht e => by have := tmOf_none hf t ht; omega)
                rw [hA] at this
                exact Option.some.inj this
              subst hA1
              have HC := Lib.hid (at_cancel_none hB hwf hf)
              have HF := Lib.hid hf
              clear hK hx hB hts hll hdue hat hA hform hf hcellA
              go_wp2_with fail
              refine (place_any _ x (M : Int) c1 c2 hM0i (by omega)).mono ?_
              rintro e w' ⟨rfl, rfl⟩
              rw [HKK.out]
              clear c0 c1 c2
              go_wp2_with fail
              refine HC.out.mono ?_
              rintro e w3 ⟨⟨gE, rfl⟩, h3⟩
              obtain ⟨g5, cp5, e5, _, _, hc5⟩ := h3.row.get HK.out.2.2.2.2
              obtain rfl : g = g5 := by
                injection e5 with e5
                injection e5 with e5
                injection e5
              have fz5 := h3.row.fz
              have H3 := Lib.hid (show WhAt w w3 b 0 M ts (.slice (some ⟨g, 0, none⟩) l.length cap) l from by rw [HK.out.2.1]; exact h3)
              clear h3 e5 HC
              go_wp2_with fail
              go_quiet (fail)
              go_wp2_with fail
              go_roundg (len1 - (i + 1))
              case measure => omega
              case rel =>
                refine ⟨i + 1, ts, l.set K (-1), by omega, rfl, by go_num, HK.out.1, by rw [List.length_set]; exact HK.out.2.1, HK.out.2.2.1, (HK.out.2.2.2.1.strike K).congr (fun t => ⟨fun h => h.1, fun h => ⟨h, fun e => ?_⟩⟩), ?_⟩
                · have := tmOf_none HF.out t h; omega
                · have h9 := (H3.out.same (kp_drewN (Kp.refl _ w3) nq)).set K (-1)
                  rw [HK.out.2.1] at h9
                  exact h9
            | some t =>
              obtain ⟨ht1, ht2⟩ := tmOf_mem hf
              have htid : t.id = K := by omega
              have hA1 : A = (t.due : Int) := by
                have := hat.1 t ht1
                rw [htid, hA] at this
                exact Option.some.inj this
              obtain ⟨D, hD⟩ : ∃ D, t.due = D := ⟨_, rfl⟩
              rw [hD] at hA1
              subst hA1
              have HC := Lib.hid (at_cancel hB hwf hf)
              rw [hD, Nat.sub_zero] at HC
              have hDb : D ≤ 5000 := by have := hdue t ht1; omega
              clear hK hx hB hts hll hdue hat hA hform hf hcellA ht1 ht2 htid hD
              go_wp2_with fail
              refine (place_any _ x (M : Int) c1 c2 hM0i (by omega)).mono ?_
              rintro e w' ⟨rfl, rfl⟩
              rw [HKK.out]
              clear c0 c1 c2
              go_wp2_with fail
              refine HC.out.mono ?_
              rintro e w3 ⟨rfl, h3⟩
              obtain ⟨g5, cp5, e5, _, _, hc5⟩ := h3.row.get HK.out.2.2.2.2
              obtain rfl : g = g5 := by
                injection e5 with e5
                injection e5 with e5
                injection e5
              have fz5 := h3.row.fz
              have H3 := Lib.hid (show WhAt w w3 b 0 M (without ts (K : Int)) (.slice (some ⟨g, 0, none⟩) l.length cap) l from by rw [HK.out.2.1]; exact h3)
              clear h3 e5 HC
              go_wp2_with fail
              go_quiet (fail)
              go_wp2_with fail
              go_roundg (len1 - (i + 1))
              case measure => omega
              case rel =>
                refine ⟨i + 1, without ts (K : Int), l.set K (-1), by omega, rfl, by go_num, ?_, by rw [List.length_set]; exact HK.out.2.1, fun x hx => HK.out.2.2.1 x (in_without.1 hx).1, (HK.out.2.2.2.1.strike K).congr (fun x => in_without.symm), ?_⟩
                · have := List.length_filter_le (fun t : Tm => !decide ((t.id : Int) = (K : Int))) ts
                  have := HK.out.1
                  unfold without
                  omega
                · have h9 := (H3.out.same (kp_drewN (Kp.refl _ w3) nq)).set K (-1)
                  rw [HK.out.2.1] at h9
                  exact h9
          · have hM0i : ¬ (0 : Int) < M := by omega
            have HB := Lib.hid (And.intro hts (And.intro hll (And.intro hdue (And.intro hat hB))))
            clear hts hll hdue hat hB hlt
            go_wp2_with fail
            clear hM0i hli hM0
            go_loopg [18, 19, 20, 21, 22, 23, 24] (min len2 100) (fun gk s18 s19 s20 s21 s22 s23 s24 wr => ∃ (k nw : Nat) (ts : List Tm) (l : List Int), k ≤ min len2 100 ∧ gk = min len2 100 - k ∧ s19 = .int .i64 (k : Nat) ∧ s18 = .int .i64 (nw : Nat) ∧ nw ≤ 799 * k ∧ ts.length ≤ M ∧ l.length = M ∧ AtIs (fun t => t ∈ ts) l ∧ WhAt w wr b nw M ts (.slice po M cap) l)
            case atStart => exact ⟨0, 0, ts, l, by omega, rfl, rfl, rfl, by omega, HB.out.1, HB.out.2.1, HB.out.2.2.2.1, HB.out.2.2.2.2⟩
            case round => as_aux_lemma =>
              obtain ⟨k, nw, ts, l, hk, rfl, rfl, rfl, hnw, hts, hll, hat, hB⟩ := hrel
              clear HB
              have hk100 : k ≤ 100 := by omega
              have hk100i : (k : Int) ≤ 100 := by omega
              have hnb : (nw : Int) ≤ 79900 := by omega
              by_cases hltk : k < len2
              · have hlk : (k : Int) < len2 := by omega
                by_cases h100 : k < 100
                · have hlk2 : (k : Int) < 100 := by omega
                  obtain ⟨b0, off0, rfl, c0, c1, c2⟩ := HI.out.2.2.at' hB.kp k hltk
                  obtain ⟨x, hx⟩ : ∃ x, z2 k = x := ⟨_, rfl⟩
                  rw [hx] at c0 c1 c2
                  obtain ⟨N, hN, hN2⟩ : ∃ K : Nat, x % 800 = K ∧ K < 800 := ⟨(x % 800).toNat, by omega, by omega⟩
                  have HN := Lib.hid hN
                  have HT := Lib.hid (at_tick hB N (by omega) (by omega) (by omega))
                  obtain ⟨E, hE⟩ : ∃ E, nw + N = E := ⟨_, rfl⟩
                  rw [hE] at HT
                  have hE2 : (nw : Int) + (N : Int) = (E : Int) := by omega
                  have HE := Lib.hid (And.intro hE hE2)
                  have hEb : (E : Int) ≤ 80700 := by omega
                  have hEn : E ≤ 80700 := by omega
                  have HK := Lib.hid (And.intro hts (And.intro hll (And.intro hat (And.intro hB.ids hB.nodup))))
                  have hNb : (N : Int) < 800 := by omega
                  clear hN hx hB hts hll hat hE hE2
                  go_wp2_with fail
                  refine (place_any _ x 800 c1 c2 (by omega) (by omega)).mono ?_
                  rintro e w' ⟨rfl, rfl⟩
                  rw [HN.out]
                  clear c0 c1 c2
                  go_wp2_with fail
                  refine HT.out.mono ?_
                  rintro e w3 ⟨u, o, ts', rfl, hu, hapart, hd, h3⟩
                  obtain ⟨pu, cu, rfl⟩ := ownsW_form hu
                  have hol : o.length ≤ ts.length := hd.length HK.out.2.2.2.2
                  have hcu : (idsOf o).length ≤ cu ∧ cu ≤ 9223372036854775807 := by
                    rcases hu.2 with ⟨e, e0⟩ | ⟨g, cap, cur, e, hb, hg, e1, e2, e3, e4⟩
                    · injection e with _ e1 e2
                      subst e2
                      omega
                    · injection e with _ _ e2
                      subst e2
                      unfold maxLen at e3
                      omega
                  rw [idsOf_len] at hcu ⊢
                  have hu2 : Lw w3 (.slice pu o.length cu) (idsOf o) := by rw [idsOf_len] at hu; exact hu
                  have hts' : ts'.length ≤ M := by
                    rw [hd.rest]
                    have := List.length_filter_le (fun t : Tm => decide (E < t.due)) ts
                    have := HK.out.1
                    omega
                  have h4 : AtIs (fun t => t ∈ ts' ∨ t ∈ o) l := HK.out.2.2.1.congr (fun t => by
                    rw [hd.mem, hd.rest, List.mem_filter]
                    constructor
                    · intro h
                      by_cases h5 : t.due ≤ E
                      · exact .inr ⟨h, h5⟩
                      · exact .inl ⟨h, by simp; omega⟩
                    · rintro (h | h)
                      · exact h.1
                      · exact h.1)
                  have H3 := Lib.hid (And.intro h3 (And.intro hu2.rd (And.intro h4 (And.intro hapart hd))))
                  have hOb : o.length ≤ 500 := by have := HK.out.1; omega
                  have hcu1 := hcu.1
                  have hcu2 := hcu.2
                  clear hu hapart hd h3 hol hu2 h4 hcu HT
                  go_wp2_with fail
                  rw [HE.out.2]
                  go_loopg [22, 23] o.length (fun gk s22 s23 wr => ∃ (j : Nat) (last : Int) (l : List Int), j ≤ o.length ∧ gk = o.length - j ∧ s23 = .int .i64 (j : Nat) ∧ s22 = .int .i64 last ∧ -1 ≤ last ∧ (∀ t ∈ o.drop j, last ≤ (t.due : Int)) ∧ l.length = M ∧ AtIs (fun t => t ∈ ts' ∨ t ∈ o.drop j) l ∧
                    WhAt w wr b E M ts' (.slice po M cap) l ∧ Lr wr (.slice pu o.length cu) (idsOf o))
                  case atStart => exact ⟨0, -1, l, by omega, rfl, rfl, rfl, by omega, fun t _ => by omega, HK.out.2.1, by rw [List.drop_zero]; exact H3.out.2.2.1, H3.out.1, H3.out.2.1⟩
                  case round => as_aux_lemma =>
                    obtain ⟨j, last, l, hj, rfl, rfl, rfl, hlast1, hlast2, hll, hat, hB, hR⟩ := hrel
                    by_cases hjl : j < o.length
                    · have hji : (j : Int) < o.length := by omega
                      obtain ⟨a, ha, hdrop⟩ := drop_cons hjl
                      have hain : a ∈ ts ∧ a.due ≤ E := (H3.out.2.2.2.2.mem a).1 (List.mem_of_getElem? ha)
                      have haid := HK.out.2.2.2.1 a hain.1
                      have hA : l[a.id]? = some (a.due : Int) := hat.1 a (.inr (by rw [hdrop]; simp))
                      obtain ⟨g, cp, hform, hf1, hf2, hcellA⟩ := hB.row.get hA
                      rw [hll] at hform hf1
                      obtain ⟨rfl, rfl⟩ : po = some ⟨g, 0, none⟩ ∧ cap = cp := by
                        injection hform with e1 _ e2
                        exact ⟨e1, e2⟩
                      have hRs := hR
                      obtain ⟨pu2, cu2, eu, _, _, hcu⟩ := hR
                      obtain ⟨gu, ou, hpu, hcellu⟩ := hcu j (a.id : Int) (by unfold idsOf; rw [List.getElem?_map, ha]; rfl)
                      obtain rfl : pu = some ⟨gu, ou, none⟩ := by
                        injection eu with e1
                        rw [e1, hpu]
                      have hfz := hB.row.fz
                      have hl2 := hlast2 a (by rw [hdrop]; simp)
                      obtain ⟨I, hI⟩ : ∃ I, a.id = I := ⟨_, rfl⟩
                      obtain ⟨D, hD⟩ : ∃ I, a.due = I := ⟨_, rfl⟩
                      rw [hI] at hcellA hcellu haid hA
                      rw [hD] at hcellA hl2 hA
                      have hDE : ¬ (E : Int) < (D : Int) := by have := hain.2; omega
                      have hDE2 : ¬ E < D := by have := hain.2; omega
                      have hDl : ¬ (D : Int) < last := by omega
                      have hIM : (I : Int) < M := by omega
                      have hMI : ¬ (M : Int) ≤ (I : Int) := by omega
                      have hcwM : IntKind.i64.wrap (M : Int) = (M : Int) := IntWalk.i64_in _ (by omega)
                      have hMI2 : ¬ M ≤ I := by omega
                      have HA := Lib.hid (And.intro ha (And.intro hdrop (And.intro hI (And.intro hD (And.intro hat (And.intro hlast2 (And.intro hll (And.intro hRs hain))))))))
                      have HB9 := Lib.hid (show WhAt w _ b E M ts' (.slice (some ⟨g, 0, none⟩) l.length cap) l from by rw [hll]; exact hB)
                      have hgg : gu ≠ g := fun e => H3.out.2.2.2.1 gu rfl (by rw [e]; rfl)
                      have hgg2 : g ≠ gu := fun e => hgg e.symm
                      clear ha hdrop hain hA hform hB hll hat hRs eu hcu hI hD hlast2 hl2
                      go_wp2_with fail
                      go_roundg (o.length - (j + 1))
                      case measure => omega
                      case rel =>
                        refine ⟨j + 1, (D : Int), l.set I (-1), by omega, rfl, by go_num, rfl, by omega, fun t ht => ?_, by rw [List.length_set]; exact HA.out.2.2.2.2.2.2.1, ?_, ?_, ?_⟩
                        · have hs := H3.out.2.2.2.2.sorted
                          have hs2 : (o.drop j).Pairwise TmLt := hs.sublist (List.drop_sublist j o)
                          rw [HA.out.2.1, List.pairwise_cons] at hs2
                          have := hs2.1 t ht
                          have := HA.out.2.2.2.1
                          unfold TmLt at *
                          omega
                        · refine (HA.out.2.2.2.2.1.strike I).congr (fun t => ?_)
                          rw [HA.out.2.1]
                          have hinj : ∀ x ∈ ts, x.id = I → x = a := fun x hx e => id_inj HK.out.2.2.2.2 hx HA.out.2.2.2.2.2.2.2.2.1 (by rw [e, HA.out.2.2.1])
                          have hs2 : (o.drop j).Pairwise TmLt := H3.out.2.2.2.2.sorted.sublist (List.drop_sublist j o)
                          rw [HA.out.2.1, List.pairwise_cons] at hs2
                          constructor
                          · rintro ⟨h | h, hne⟩
                            · exact .inl h
                            · rcases List.mem_cons.1 h with rfl | h
                              · exact absurd HA.out.2.2.1 hne
                              · exact .inr h
                          · rintro (h | h)
                            · refine ⟨.inl h, fun e => ?_⟩
                              have h9 := h
                              rw [H3.out.2.2.2.2.rest, List.mem_filter] at h9
                              have := hinj t h9.1 e
                              subst this
                              have h10 := h9.2
                              have := HA.out.2.2.2.2.2.2.2.2.2
                              simp at h10
                              omega
                            · refine ⟨.inr (List.mem_cons_of_mem _ h), fun e => ?_⟩
                              have h9 : t ∈ o := List.mem_of_mem_drop h
                              have := hinj t ((H3.out.2.2.2.2.mem t).1 h9).1 e
                              subst this
                              exact tmLt_irrefl _ (hs2.1 _ h)
                        · have h9 := HB9.out.set I (-1)
                          rw [HA.out.2.2.2.2.2.2.1] at h9
                          exact h9
                        · exact HA.out.2.2.2.2.2.2.2.1.kp ((Kp.refl (fun q => q = g) _).setCell _ _ (.inl rfl)) (fun q hq e => by
                            have : gu = q := by injection hq
                            omega)
                    · obtain rfl : o.length = j := by omega
                      have hat2 : AtIs (fun t => t ∈ ts') l := hat.congr (fun t => by simp)
                      have HB9 := Lib.hid (And.intro hB (And.intro hll hat2))
                      have hM5 : (M : Int) ≤ 500 := by omega
                      clear hat hB hR hlast2 hjl hlast1
                      go_wp2_with fail
                      go_loopg [24] M (fun gk s24 wr' => ∃ q : Nat, q ≤ M ∧ gk = M - q ∧ s24 = .int .i64 (q : Nat) ∧ WhAt w wr' b E M ts' (.slice po M cap) l)
                      case atStart => exact ⟨0, by omega, rfl, rfl, HB9.out.1⟩
                      case round => as_aux_lemma =>
                        obtain ⟨q, hq, rfl, rfl, hB⟩ := hrel
                        by_cases hqM : q < M
                        · have hqi : (q : Int) < M := by omega
                          obtain ⟨A, hA⟩ := get_of_lt (l := l) (k := q) (by have := HB9.out.2.1; omega)
                          have hAcase : ¬ (0 ≤ A) ∨ (0 ≤ A ∧ ¬ A ≤ (E : Int)) := by
                            by_cases hex : ∃ t, t ∈ ts' ∧ t.id = q
                            · obtain ⟨t, ht1, ht2⟩ := hex
                              have h9 := HB9.out.2.2.1 t ht1
                              rw [ht2, hA] at h9
                              have h10 := Option.some.inj h9
                              rw [H3.out.2.2.2.2.rest, List.mem_filter] at ht1
                              have h11 := ht1.2
                              simp at h11
                              exact .inr ⟨by omega, by omega⟩
                            · have h9 := HB9.out.2.2.2 q (by have := HB9.out.2.1; omega) (fun t ht e => hex ⟨t, ht, e⟩)
                              rw [hA] at h9
                              have h10 := Option.some.inj h9
                              exact .inl (by omega)
                          obtain ⟨g, cp, hform, hf1, hf2, hcellA⟩ := hB.row.get hA
                          rw [HB9.out.2.1] at hform hf1
                          obtain ⟨rfl, rfl⟩ : po = some ⟨g, 0, none⟩ ∧ cap = cp := by
                            injection hform with e1 _ e2
                            exact ⟨e1, e2⟩
                          have HBB := Lib.hid hB
                          clear hA hform hB
                          rcases hAcase with hA1 | ⟨hA0, hA1⟩
                          · go_wp2_with fail
                            go_roundg (M - (q + 1))
                            case measure => omega
                            case rel => exact ⟨q + 1, by omega, rfl, by go_num, HBB.out⟩
                          · go_wp2_with fail
                            go_roundg (M - (q + 1))
                            case measure => omega
                            case rel => exact ⟨q + 1, by omega, rfl, by go_num, HBB.out⟩
                        · obtain rfl : M = q := by omega
                          have HBB := Lib.hid hB
                          clear hqM hB
                          go_wp2_with fail
                          go_roundg (min len2 100 - (k + 1))
                          case measure => omega
                          case rel => exact ⟨k + 1, E, ts', l, by omega, rfl, by go_num, rfl, by have := HE.out.1; omega, hts', HB9.out.2.1, HB9.out.2.2, HBB.out⟩
                · have hlk2 : ¬ (k : Int) < 100 := by omega
                  have H7 := Lib.hid hB
                  clear hB hts hll hat HI
                  go_wp2_with fail
                  refine (whAwake_any _).mono ?_
                  rintro e w7 ⟨rfl, hk7⟩
                  have H8 := Lib.hid (H7.out.same hk7).kp
                  clear hk7
                  go_wp2_with fail
                  go_ret
                  exact ⟨rfl, H8.out.below _ (Nat.le_refl _) (fun _ e => e.elim)⟩
              · have hlk : ¬ (k : Int) < len2 := by omega
                have H7 := Lib.hid hB
                clear hB hts hll hat HI
                go_wp2_with fail
                refine (whAwake_any _).mono ?_
                rintro e w7 ⟨rfl, hk7⟩
                have H8 := Lib.hid (H7.out.same hk7).kp
                clear hk7
                go_wp2_with fail
                go_ret
                exact ⟨rfl, H8.out.below _ (Nat.le_refl _) (fun _ e => e.elim)⟩
        · have hli : ¬ (i : Int) < len1 := by omega
          have HB := Lib.hid (And.intro hts (And.intro hll (And.intro hdue (And.intro hat hB))))
          clear hts hll hdue hat hB hlt
          go_wp2_with fail
          clear hli
          go_loopg [18, 19, 20, 21, 22, 23, 24] (min len2 100) (fun gk s18 s19 s20 s21 s22 s23 s24 wr => ∃ (k nw : Nat) (ts : List Tm) (l : List Int), k ≤ min len2 100 ∧ gk = min len2 100 - k ∧ s19 = .int .i64 (k : Nat) ∧ s18 = .int .i64 (nw : Nat) ∧ nw ≤ 799 * k ∧ ts.length ≤ M ∧ l.length = M ∧ AtIs (fun t => t ∈ ts) l ∧ WhAt w wr b nw M ts (.slice po M cap) l)
          case atStart => exact ⟨0, 0, ts, l, by omega, rfl, rfl, rfl, by omega, HB.out.1, HB.out.2.1, HB.out.2.2.2.1, HB.out.2.2.2.2⟩
          case round => as_aux_lemma =>
            obtain ⟨k, nw, ts, l, hk, rfl, rfl, rfl, hnw, hts, hll, hat, hB⟩ := hrel
            clear HB
            have hk100 : k ≤ 100 := by omega
            have hk100i : (k : Int) ≤ 100 := by omega
            have hnb : (nw : Int) ≤ 79900 := by omega
            by_cases hltk : k < len2
            · have hlk : (k : Int) < len2 := by omega
              by_cases h100 : k < 100
              · have hlk2 : (k : Int) < 100 := by omega
                obtain ⟨b0, off0, rfl, c0, c1, c2⟩ := HI.out.2.2.at' hB.kp k hltk
                obtain ⟨x, hx⟩ : ∃ x, z2 k = x := ⟨_, rfl⟩
                rw [hx] at c0 c1 c2
                obtain ⟨N, hN, hN2⟩ : ∃ K : Nat, x % 800 = K ∧ K < 800 := ⟨(x % 800).toNat, by omega, by omega⟩
                have HN := Lib.hid hN
                have HT := Lib.hid (at_tick hB N (by omega) (by omega) (by omega))
                obtain ⟨E, hE⟩ : ∃ E, nw + N = E := ⟨_, rfl⟩
                rw [hE] at HT
                have hE2 : (nw : Int) + (N : Int) = (E : Int) := by omega
                have HE := Lib.hid (And.intro hE hE2)
                have hEb : (E : Int) ≤ 80700 := by omega
                have hEn : E ≤ 80700 := by omega
                have HK := Lib.hid (And.intro hts (And.intro hll (And.intro hat (And.intro hB.ids hB.nodup))))
                have hNb : (N : Int) < 800 := by omega
                clear hN hx hB hts hll hat hE hE2
                go_wp2_with fail
                refine (place_any _ x 800 c1 c2 (by omega) (by omega)).mono ?_
                rintro e w' ⟨rfl, rfl⟩
                rw [HN.out]
                clear c0 c1 c2
                go_wp2_with fail
                refine HT.out.mono ?_
                rintro e w3 ⟨u, o, ts', rfl, hu, hapart, hd, h3⟩
                obtain ⟨pu, cu, rfl⟩ := ownsW_form hu
                have hol : o.length ≤ ts.length := hd.length HK.out.2.2.2.2
                have hcu : (idsOf o).length ≤ cu ∧ cu ≤ 9223372036854775807 := by
                  rcases hu.2 with ⟨e, e0⟩ | ⟨g, cap, cur, e, hb, hg, e1, e2, e3, e4⟩
                  · injection e with _ e1 e2
                    subst e2
                    omega
                  · injection e with _ _ e2
                    subst e2
                    unfold maxLen at e3
                    omega
                rw [idsOf_len] at hcu ⊢
                have hu2 : Lw w3 (.slice pu o.length cu) (idsOf o) := by rw [idsOf_len] at hu; exact hu
                have hts' : ts'.length ≤ M := by
                  rw [hd.rest]
                  have := List.length_filter_le (fun t : Tm => decide (E < t.due)) ts
                  have := HK.out.1
                  omega
                have h4 : AtIs (fun t => t ∈ ts' ∨ t ∈ o) l := HK.out.2.2.1.congr (fun t => by
                  rw [hd.mem, hd.rest, List.mem_filter]
                  constructor
                  · intro h
                    by_cases h5 : t.due ≤ E
                    · exact .inr ⟨h, h5⟩
                    · exact .inl ⟨h, by simp; omega⟩
                  · rintro (h | h)
                    · exact h.1
                    · exact h.1)
                have H3 := Lib.hid (And.intro h3 (And.intro hu2.rd (And.intro h4 (And.intro hapart hd))))
                have hOb : o.length ≤ 500 := by have := HK.out.1; omega
                have hcu1 := hcu.1
                have hcu2 := hcu.2
                clear hu hapart hd h3 hol hu2 h4 hcu HT
                go_wp2_with fail
                rw [HE.out.2]
                go_loopg [22, 23] o.length (fun gk s22 s23 wr => ∃ (j : Nat) (last : Int) (l : List Int), j ≤ o.length ∧ gk = o.length - j ∧ s23 = .int .i64 (j : Nat) ∧ s22 = .int .i64 last ∧ -1 ≤ last ∧ (∀ t ∈ o.drop j, last ≤ (t.due : Int)) ∧ l.length = M ∧ AtIs (fun t => t ∈ ts' ∨ t ∈ o.drop j) l ∧
                  WhAt w wr b E M ts' (.slice po M cap) l ∧ Lr wr (.slice pu o.length cu) (idsOf o))
                case atStart => exact ⟨0, -1, l, by omega, rfl, rfl, rfl, by omega, fun t _ => by omega, HK.out.2.1, by rw [List.drop_zero]; exact H3.out.2.2.1, H3.out.1, H3.out.2.1⟩
                case round => as_aux_lemma =>
                  obtain ⟨j, last, l, hj, rfl, rfl, rfl, hlast1, hlast2, hll, hat, hB, hR⟩ := hrel
                  by_cases hjl : j < o.length
                  · have hji : (j : Int) < o.length := by omega
                    obtain ⟨a, ha, hdrop⟩ := drop_cons hjl
                    have hain : a ∈ ts ∧ a.due ≤ E := (H3.out.2.2.2.2.mem a).1 (List.mem_of_getElem? ha)
                    have haid := HK.out.2.2.2.1 a hain.1
                    have hA : l[a.id]? = some (a.due : Int) := hat.1 a (.inr (by rw [hdrop]; simp))
                    obtain ⟨g, cp, hform, hf1, hf2, hcellA⟩ := hB.row.get hA
                    rw [hll] at hform hf1
                    obtain ⟨rfl, rfl⟩ : po = some ⟨g, 0, none⟩ ∧ cap = cp := by
                      injection hform with e1 _ e2
                      exact ⟨e1, e2⟩
                    have hRs := hR
                    obtain ⟨pu2, cu2, eu, _, _, hcu⟩ := hR
                    obtain ⟨gu, ou, hpu, hcellu⟩ := hcu j (a.id : Int) (by unfold idsOf; rw [List.getElem?_map, ha]; rfl)
                    obtain rfl : pu = some ⟨gu, ou, none⟩ := by
                      injection eu with e1
                      rw [e1, hpu]
                    have hfz := hB.row.fz
                    have hl2 := hlast2 a (by rw [hdrop]; simp)
                    obtain ⟨I, hI⟩ : ∃ I, a.id = I := ⟨_, rfl⟩
                    obtain ⟨D, hD⟩ : ∃ I, a.due = I := ⟨_, rfl⟩
                    rw [hI] at hcellA hcellu haid hA
                    rw [hD] at hcellA hl2 hA
                    have hDE : ¬ (E : Int) < (D : Int) := by have := hain.2; omega
                    have hDE2 : ¬ E < D := by have := hain.2; omega
                    have hDl : ¬ (D : Int) < last := by omega
                    have hIM : (I : Int) < M := by omega
                    have hMI : ¬ (M : Int) ≤ (I : Int) := by omega
                    have hcwM : IntKind.i64.wrap (M : Int) = (M : Int) := IntWalk.i64_in _ (by omega)
                    have hMI2 : ¬ M ≤ I := by omega
                    have HA := Lib.hid (And.intro ha (And.intro hdrop (And.intro hI (And.intro hD (And.intro hat (And.intro hlast2 (And.intro hll (And.intro hRs hain))))))))
                    have HB9 := Lib.hid (show WhAt w _ b E M ts' (.slice (some ⟨g, 0, none⟩) l.length cap) l from by rw [hll]; exact hB)
                    have hgg : gu ≠ g := fun e => H3.out.2.2.2.1 gu rfl (by rw [e]; rfl)
                    have hgg2 : g ≠ gu := fun e => hgg e.symm
                    clear ha hdrop hain hA hform hB hll hat hRs eu hcu hI hD hlast2 hl2
                    go_wp2_with fail
                    go_roundg (o.length - (j + 1))
                    case measure => omega
                    case rel =>
                      refine ⟨j + 1, (D : Int), l.set I (-1), by omega, rfl, by go_num, rfl, by omega, fun t ht => ?_, by rw [List.length_set]; exact HA.out.2.2.2.2.2.2.1, ?_, ?_, ?_⟩
                      · have hs := H3.out.2.2.2.2.sorted
                        have hs2 : (o.drop j).Pairwise TmLt := hs.sublist (List.drop_sublist j o)
                        rw [HA.out.2.1, List.pairwise_cons] at hs2
                        have := hs2.1 t ht
                        have := HA.out.2.2.2.1
                        unfold TmLt at *
                        omega
                      · refine (HA.out.2.2.2.2.1.strike I).congr (fun t => ?_)
                        rw [HA.out.2.1]
                        have hinj : ∀ x ∈ ts, x.id = I → x = a := fun x hx e => id_inj HK.out.2.2.2.2 hx HA.out.2.2.2.2.2.2.2.2.1 (by rw [e, HA.out.2.2.1])
                        have hs2 : (o.drop j).Pairwise TmLt := H3.out.2.2.2.2.sorted.sublist (List.drop_sublist j o)
                        rw [HA.out.2.1, List.pairwise_cons] at hs2
                        constructor
                        · rintro ⟨h | h, hne⟩
                          · exact .inl h
                          · rcases List.mem_cons.1 h with rfl | h
                            · exact absurd HA.out.2.2.1 hne
                            · exact .inr h
                        · rintro (h | h)
                          · refine ⟨.inl h, fun e => ?_⟩
                            have h9 := h
                            rw [H3.out.2.2.2.2.rest, List.mem_filter] at h9
                            have := hinj t h9.1 e
                            subst this
                            have h10 := h9.2
                            have := HA.out.2.2.2.2.2.2.2.2.2
                            simp at h10
                            omega
                          · refine ⟨.inr (List.mem_cons_of_mem _ h), fun e => ?_⟩
                            have h9 : t ∈ o := List.mem_of_mem_drop h
                            have := hinj t ((H3.out.2.2.2.2.mem t).1 h9).1 e
                            subst this
                            exact tmLt_irrefl _ (hs2.1 _ h)
                      · have h9 := HB9.out.set I (-1)
                        rw [HA.out.2.2.2.2.2.2.1] at h9
                        exact h9
                      · exact HA.out.2.2.2.2.2.2.2.1.kp ((Kp.refl (fun q => q = g) _).setCell _ _ (.inl rfl)) (fun q hq e => by
                          have : gu = q := by injection hq
                          omega)
                  · obtain rfl : o.length = j := by omega
                    have hat2 : AtIs (fun t => t ∈ ts') l := hat.congr (fun t => by simp)
                    have HB9 := Lib.hid (And.intro hB (And.intro hll hat2))
                    have hM5 : (M : Int) ≤ 500 := by omega
                    clear hat hB hR hlast2 hjl hlast1
                    go_wp2_with fail
                    go_loopg [24] M (fun gk s24 wr' => ∃ q : Nat, q ≤ M ∧ gk = M - q ∧ s24 = .int .i64 (q : Nat) ∧ WhAt w wr' b E M ts' (.slice po M cap) l)
                    case atStart => exact ⟨0, by omega, rfl, rfl, HB9.out.1⟩
                    case round => as_aux_lemma =>
                      obtain ⟨q, hq, rfl, rfl, hB⟩ := hrel
                      by_cases hqM : q < M
                      · have hqi : (q : Int) < M := by omega
                        obtain ⟨A, hA⟩ := get_of_lt (l := l) (k := q) (by have := HB9.out.2.1; omega)
                        have hAcase : ¬ (0 ≤ A) ∨ (0 ≤ A ∧ ¬ A ≤ (E : Int)) := by
                          by_cases hex : ∃ t, t ∈ ts' ∧ t.id = q
                          · obtain ⟨t, ht1, ht2⟩ := hex
                            have h9 := HB9.out.2.2.1 t ht1
                            rw [ht2, hA] at h9
                            have h10 := Option.some.inj h9
                            rw [H3.out.2.2.2.2.rest, List.mem_filter] at ht1
                            have h11 := ht1.2
                            simp at h11
                            exact .inr ⟨by omega, by omega⟩
                          · have h9 := HB9.out.2.2.2 q (by have := HB9.out.2.1; omega) (fun t ht e => hex ⟨t, ht, e⟩)
                            rw [hA] at h9
                            have h10 := Option.some.inj h9
                            exact .inl (by omega)
                        obtain ⟨g, cp, hform, hf1, hf2, hcellA⟩ := hB.row.get hA
                        rw [HB9.out.2.1] at hform hf1
                        obtain ⟨rfl, rfl⟩ : po = some ⟨g, 0, none⟩ ∧ cap = cp := by
                          injection hform with e1 _ e2
                          exact ⟨e1, e2⟩
                        have HBB := Lib.hid hB
                        clear hA hform hB
                        rcases hAcase with hA1 | ⟨hA0, hA1⟩
                        · go_wp2_with fail
                          go_roundg (M - (q + 1))
                          case measure => omega
                          case rel => exact ⟨q + 1, by omega, rfl, by go_num, HBB.out⟩
                        · go_wp2_with fail
                          go_roundg (M - (q + 1))
                          case measure => omega
                          case rel => exact ⟨q + 1, by omega, rfl, by go_num, HBB.out⟩
                      · obtain rfl : M = q := by omega
                        have HBB := Lib.hid hB
                        clear hqM hB
                        go_wp2_with fail
                        go_roundg (min len2 100 - (k + 1))
                        case measure => omega
                        case rel => exact ⟨k + 1, E, ts', l, by omega, rfl, by go_num, rfl, by have := HE.out.1; omega, hts', HB9.out.2.1, HB9.out.2.2, HBB.out⟩
              · have hlk2 : ¬ (k : Int) < 100 := by omega
                have H7 := Lib.hid hB
                clear hB hts hll hat HI
                go_wp2_with fail
                refine (whAwake_any _).mono ?_
                rintro e w7 ⟨rfl, hk7⟩
                have H8 := Lib.hid (H7.out.same hk7).kp
                clear hk7
                go_wp2_with fail
                go_ret
                exact ⟨rfl, H8.out.below _ (Nat.le_refl _) (fun _ e => e.elim)⟩
            · have hlk : ¬ (k : Int) < len2 := by omega
              have H7 := Lib.hid hB
              clear hB hts hll hat HI
              go_wp2_with fail
              refine (whAwake_any _).mono ?_
              rintro e w7 ⟨rfl, hk7⟩
              have H8 := Lib.hid (H7.out.same hk7).kp
              clear hk7
              go_wp2_with fail
              go_ret
              exact ⟨rfl, H8.out.below _ (Nat.le_refl _) (fun _ e => e.elim)⟩

theorem walk (a0 : Option Addr) (len0 cap0 : Nat) (z0 : Nat → Int) (a1 : Option Addr) (len1 cap1 : Nat) (z1 : Nat → Int) (a2 : Option Addr) (len2 cap2 : Nat) (z2 : Nat → Int) (w : World)
    (h0 : InRow w a0 len0 z0 ∧ len0 ≤ cap0 ∧ cap0 ≤ 9223372036854775807) (h1 : InRow w a1 len1 z1) (h2 : InRow w a2 len2 z2) :
    Calls Try.prog 5 #[.slice a0 len0 cap0, .slice a1 len1 cap1, .slice a2 len2 cap2] w fun e w' => e = .returned (.bool true) ∧ Below w.heap.size w w' := by
  by_cases hgt : 500 < len0
  · exact walk_big a0 len0 cap0 z0 a1 len1 cap1 z1 a2 len2 cap2 z2 w h0 h1 h2 hgt
  · exact walk_small a0 len0 cap0 z0 a1 len1 cap1 z1 a2 len2 cap2 z2 w h0 h1 h2 hgt

set_option maxRecDepth 100000 in
theorem lifted (os : Os) (started : os.Started) (H : Type) (enc : TypeId × Value → H) :
    ReturnsInHanded {} Try.checked os 5 .any (Rows.wheelExpiresSpec.pre6 enc Try.prog Try.f5 Rows.wheelExpiresRow.domain false) (Rows.wheelExpiresSpec.post enc Try.prog Try.f5 false true false false) := by
  refine returnsInHanded_of_change (C := Try.checked) own started (by kernel_rfl) Try.func5
    (ChangeSpec.witness6 (enc := enc) (C := Try.checked) false ⟨#[], #[.slice none 0 0, .slice none 0 0, .slice none 0 0], []⟩ 8 (by kernel_rfl) (by kernel_rfl) (by kernel_rfl) (by kernel_rfl)) ?_
  intro W base args ds gs before hval0 hW hcnd _
  have hval : ∀ (j : Nat) t v, Try.f5.params[j]? = some t → args[j]? = some v → Value.okWide Try.prog W .any base t v := hval0
  have hW' := hW
  obtain ⟨p, q, hA0, hV, rfl, hfz, hnd⟩ := hW
  have hA : DataW.TrodAll enc Try.prog W 0 (fun _ => true) true Try.f5.params.toList args.toList ds p := hA0
  rw [Try.params5] at hA hval
  obtain ⟨v0, vs0, d0, ds0, p0, q0, hargs, rfl, rfl, h0, r0⟩ := trodAll_cons hA
  obtain ⟨v1, vs1, d1, ds1, p1, q1, rfl, rfl, rfl, h1, r1⟩ := trodAll_cons r0
  obtain ⟨v2, vs2, d2, ds2, p2, q2, rfl, rfl, rfl, h2, r2⟩ := trodAll_cons r1
  obtain ⟨rfl, rfl, rfl⟩ := trodAll_nil r2
  obtain rfl : args = #[v0, v1, v2] := by cases args; simp_all
  obtain ⟨rfl, rfl⟩ := trodVars_none hV
  obtain ⟨a0, len0, cap0, rfl⟩ := okWide_slice Try.underlying60 (hval 0 60 v0 rfl rfl)
  have k0 := h0
  have lt0 : ∀ x ∈ p0, x.block < W.heap.size := by obtain ⟨m, hm⟩ := k0; exact DataW.trod_lt m _ _ _ hm
  obtain ⟨z0, w0⟩ : ∃ zs : Nat → Int, InRow W a0 len0 zs ∧ len0 ≤ cap0 ∧ cap0 ≤ 9223372036854775807 := by
    obtain ⟨fuel, hf⟩ := h0
    rcases open_ints Try.underlying60 Try.underlying3 (by kernel_rfl) hf with ⟨hcs, _⟩ | ⟨x, l, c, zs, hcs, _, hl, hm, hz, _, hcell, hwz⟩
    · simp [Value.cells] at hcs
      obtain ⟨rfl, rfl, rfl⟩ := hcs
      exact ⟨fun _ => 0, ⟨by unfold InRow; exact ⟨by omega, fun k hk => by omega⟩, by omega, by omega⟩⟩
    · simp [Value.cells] at hcs
      obtain ⟨rfl, rfl, rfl⟩ := hcs
      exact ⟨_, ⟨inRow_of (zs := zs) (.inr ⟨_, rfl, hl, hm, by simpa using hz, hcell, hwz⟩), hl, by unfold maxLen at hm; omega⟩⟩
  obtain ⟨a1, len1, cap1, rfl⟩ := okWide_slice Try.underlying60 (hval 1 60 v1 rfl rfl)
  have k1 := h1
  have lt1 : ∀ x ∈ p1, x.block < W.heap.size := by obtain ⟨m, hm⟩ := k1; exact DataW.trod_lt m _ _ _ hm
  obtain ⟨z1, w1⟩ : ∃ zs : Nat → Int, InRow W a1 len1 zs := by
    obtain ⟨fuel, hf⟩ := h1
    rcases open_ints Try.underlying60 Try.underlying3 (by kernel_rfl) hf with ⟨hcs, _⟩ | ⟨x, l, c, zs, hcs, _, hl, hm, hz, _, hcell, hwz⟩
    · simp [Value.cells] at hcs
      obtain ⟨rfl, rfl, rfl⟩ := hcs
      exact ⟨fun _ => 0, by unfold InRow; exact ⟨by omega, fun k hk => by omega⟩⟩
    · simp [Value.cells] at hcs
      obtain ⟨rfl, rfl, rfl⟩ := hcs
      exact ⟨_, inRow_of (zs := zs) (.inr ⟨_, rfl, hl, hm, by simpa using hz, hcell, hwz⟩)⟩
  obtain ⟨a2, len2, cap2, rfl⟩ := okWide_slice Try.underlying60 (hval 2 60 v2 rfl rfl)
  have k2 := h2
  have lt2 : ∀ x ∈ p2, x.block < W.heap.size := by obtain ⟨m, hm⟩ := k2; exact DataW.trod_lt m _ _ _ hm
  obtain ⟨z2, w2⟩ : ∃ zs : Nat → Int, InRow W a2 len2 zs := by
    obtain ⟨fuel, hf⟩ := h2
    rcases open_ints Try.underlying60 Try.underlying3 (by kernel_rfl) hf with ⟨hcs, _⟩ | ⟨x, l, c, zs, hcs, _, hl, hm, hz, _, hcell, hwz⟩
    · simp [Value.cells] at hcs
      obtain ⟨rfl, rfl, rfl⟩ := hcs
      exact ⟨fun _ => 0, by unfold InRow; exact ⟨by omega, fun k hk => by omega⟩⟩
    · simp [Value.cells] at hcs
      obtain ⟨rfl, rfl, rfl⟩ := hcs
      exact ⟨_, inRow_of (zs := zs) (.inr ⟨_, rfl, hl, hm, by simpa using hz, hcell, hwz⟩)⟩
  clear hA0 hval0
  refine (walk a0 len0 cap0 z0 a1 len1 cap1 z1 a2 len2 cap2 z2 W w0 w1 w2).mono fun e W' ⟨he, bel⟩ => ?_
  subst he
  exact ⟨_, rfl, _, _, _, [], _, [], hW', trodAll_mk1 (shut_bool Try.underlying4 _), (trodAll_cons_mk (Below.trod laidOut (by kernel_rfl) (of_decide_eq_true (by kernel_rfl)) k0 bel lt0) (trodAll_cons_mk (Below.trod laidOut (by kernel_rfl) (of_decide_eq_true (by kernel_rfl)) k1 bel lt1) (trodAll_cons_mk (Below.trod laidOut (by kernel_rfl) (of_decide_eq_true (by kernel_rfl)) k2 bel lt2) trodAll_mk0))), rfl, bel.frame _, fun h => by cases h⟩

theorem over : Rows.wheelExpiresRow.holds Try.pinned (OpenSpec.ofChange Rows.wheelExpiresSpec) :=
  OpenClaim.holds_of_wide 5 Try.f5 rfl rfl rfl rfl rfl rfl rfl ⟨rfl, rfl, rfl, rfl, rfl⟩ rfl rfl rfl rfl rfl (by kernel_rfl) Try.func5 (by kernel_rfl)
    (of_decide_eq_true (by kernel_rfl)) (by unfold Func.isWrapper; first | (rw [if_pos (by decide +kernel)]; kernel_rfl) | (rw [if_neg (by decide +kernel)]; exact ⟨rfl, rfl⟩))
    (fun os started H enc _ => lifted os started H enc)

theorem proved : Rows.WheelExpiresSaid := over
#print axioms proved
end Go.Proofs.Ytmekhijmghddiaa.wheelExpires
