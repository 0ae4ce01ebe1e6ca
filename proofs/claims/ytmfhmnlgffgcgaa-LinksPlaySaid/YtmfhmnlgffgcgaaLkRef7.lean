/- The document's own net: Monitor, Demonitor. -/
import Derived.Test.YtmfhmnlgffgcgaaLkRef4
import Derived.Test.YtmfhmnlgffgcgaaLkRef6
namespace Go.Proofs.Ytmfhmnlgffgcgaa
open Go.RowKit
set_option linter.unusedVariables false

section
variable {F : Nat → Prop} {w w' : World} {b next : Nat} {v vl vm : Value} {ls : List (Int × Int)} {ms : List Mo} {a x r : Int}
theorem RNt.setn {w2 : World} (h : RNt w2 b vl vm ls ms next) : RNt (w2.setCell ⟨b, 2, none⟩ (.int .i64 ((next : Int) + 1))) b vl vm ls ms (next + 1) := by
  have k3 : Kp (fun q => q = b) w2 (w2.setCell ⟨b, 2, none⟩ (.int .i64 ((next : Int) + 1))) := (Kp.refl (fun q => q = b) w2).setCell _ _ (.inl rfl)
  exact ⟨lk_heap_set h.main _, k3.rowS h.lr (fun g hg e => h.bl (by rw [← e]; exact hg)), k3.rowS h.mr (fun g hg e => h.bm (by rw [← e]; exact hg))⟩
set_option maxRecDepth 100000 in
set_option maxHeartbeats 8000000 in
theorem xmonitor_any (h : RNt w b vl vm ls ms next) (hn : next + 1 ≤ 5864062014805) (hl : ms.length ≤ next) :
    Calls Try.prog 23 #[.pointer (some ⟨b, 0, none⟩), .int .i64 a, .int .i64 x] w (RTo w b vl vm ls (ms ++ [⟨(next : Nat), a, x⟩]) (next + 1) (.int .i64 (next : Nat))) := by
  obtain ⟨po, cp, hvl, hcp, hcp2⟩ := ownsS_form h.mr
  obtain ⟨n, hn2⟩ : ∃ n, ms.length = n := ⟨_, rfl⟩
  obtain ⟨c0, c1, c2, fz⟩ := h.facts
  have kA : Kp (fun _ => False) w (w.drew.alloc (.cells #[.int .i64 (next : Nat), .int .i64 a, .int .i64 x] 80)) := (Kp.refl (fun _ => False) w).drew.alloc _
  have hA := h.same kA
  obtain ⟨v', w6, hr, ho, hk6, hat⟩ := moC_push hA.mr (⟨(next : Nat), a, x⟩ : Mo) (heap_alloc_new w.drew _) (by omega)
  obtain ⟨f1, f2, f3⟩ := h.setm kA hk6 ho (fun g hg => (hat g hg).imp id (fun e => Nat.le_trans kA.size e)) (.int .i64 (next : Nat))
  obtain ⟨po2, c3, rfl, -, -⟩ := ownsS_form ho
  obtain ⟨n2, hn3⟩ : ∃ n2, (ms ++ [(⟨(next : Nat), a, x⟩ : Mo)]).length = n2 := ⟨_, rfl⟩
  rw [hn3] at hr f3
  obtain ⟨w7, hw7⟩ : ∃ w7, w6.setCell ⟨b, 1, none⟩ (.slice po2 n2 c3) = w7 := ⟨_, rfl⟩
  rw [hw7] at f3
  obtain ⟨-, vl', vm', g1, g2, g3, g4⟩ := f3
  obtain ⟨-, -, d2, fz7⟩ := g1.facts
  obtain ⟨w8, hw8⟩ : ∃ w8, w7.setCell ⟨b, 2, none⟩ (.int .i64 ((next : Int) + 1)) = w8 := ⟨_, rfl⟩
  have h8 : RNt w8 b vl' vm' ls (ms ++ [⟨(next : Nat), a, x⟩]) (next + 1) := by rw [← hw8]; exact g1.setn
  have k8 : Kp (fun q => q = b) w7 w8 := by rw [← hw8]; exact (Kp.refl (fun q => q = b) w7).setCell _ _ (.inl rfl)
  have d8 : w8.cell? ⟨b, 2, none⟩ = some (.int .i64 ((next : Int) + 1)) := h8.facts.2.2.1
  have HF : Hid (RTo w b vl vm ls (ms ++ [⟨(next : Nat), a, x⟩]) (next + 1) (.int .i64 (next : Nat)) (.returned (.int .i64 (next : Nat))) w8) := Lib.hid ⟨rfl, vl', vm', h8, g2, g3, g4.trans' (k8.mono fun _ _ e => .inl e)⟩
  have cA : (w.alloc (.cells #[.int .i64 (next : Nat), .int .i64 a, .int .i64 x] 80)).cell? ⟨b, 1, none⟩ = some vm := hA.facts.2.1
  have HR := Lib.hid hr
  rw [hn2] at hvl hcp
  subst hvl
  have hnb : (next : Int) ≤ 5864062014805 := by omega
  clear h hA kA hr ho hk6 hat g1 g2 g3 g4 h8 k8 hn hl hn2 hn3
  go_enter Try.func23, Try.ntmps23
  go_wp2_with fail
  go_region_law (refine step_run (by rfl) (.tmp 11) (.tmp 19) 57 (by rfl) (.slice po n cp) (.slice (some ⟨w.drew.heap.size, 0, none⟩) 1 1) (by first | (simp [Act.eval]; done) | simp [Act.eval, Act.put]) (by first | (simp [Act.eval]; done) | simp [Act.eval, Act.put]) _ _ HR.out ?_)
  all_goals try rw [hw7]
  all_goals go_wp2_with fail
  all_goals go_ret
  all_goals exact HF.out
theorem butRef_at {i : Nat} {m : Mo} (hok : MoOk next ms) (hi : ms[i]? = some m) : butRef ms m.ref = ms.take i ++ ms.drop (i + 1) := by
  obtain ⟨hlt, hp⟩ := List.getElem?_eq_some_iff.1 hi
  have h1 : ms = ms.take i ++ m :: ms.drop (i + 1) := by
    rw [← hp, List.getElem_cons_drop, List.take_append_drop]
  have hpw := hok.1
  rw [h1, List.pairwise_append, List.pairwise_cons] at hpw
  obtain ⟨-, ⟨h2, -⟩, h3⟩ := hpw
  conv => lhs; rw [h1]
  unfold butRef
  rw [List.filter_append, List.filter_cons_of_neg (by simp)]
  congr 1
  · rw [List.filter_eq_self]
    intro q hq
    have := h3 q hq m (by simp)
    simp
    omega
  · rw [List.filter_eq_self]
    intro q hq
    have := h2 q hq
    simp
    omega
/-- what Demonitor leaves: the reference is gone, or an error -/
def XDem (w : World) (b : Nat) (vl vm : Value) (ls : List (Int × Int)) (ms : List Mo) (next : Nat) (r who : Int) (e : Ending) (w' : World) : Prop :=
  (demKind ms r who = 0 ∧ RTo w b vl vm ls (butRef ms r) next (.pointer none) e w') ∨
    (demKind ms r who ≠ 0 ∧ XBad w (fun v => v) [Lk.fault ⟨#[100, 101, 109, 111, 110, 105, 116, 111, 114]⟩ (r % 2147483648), Lk.kind (demKind ms r who)] e w')
set_option maxRecDepth 100000 in
set_option maxHeartbeats 8000000 in
theorem xdem_any (h : RNt w b vl vm ls ms next) (hok : MoOk next ms) (hl : ms.length ≤ 5864062014805) (r who : Int) :
    Calls Try.prog 25 #[.pointer (some ⟨b, 0, none⟩), .int .i64 r, .int .i64 who] w (XDem w b vl vm ls ms next r who) := by
  obtain ⟨po, cp, hvl, hcp, hcp2⟩ := ownsS_form h.mr
  obtain ⟨n, hn⟩ : ∃ n, ms.length = n := ⟨_, rfl⟩
  have HQ := Lib.hid (And.intro h (And.intro hn (And.intro hok hl)))
  rw [hn] at hvl hcp
  subst hvl
  have hnm : (n : Int) ≤ 5864062014805 := by omega
  have u1 : IntKind.u64.wrap r = r % 18446744073709551616 := by rw [IntKind.wrap_u64]
  obtain ⟨U, hU⟩ : ∃ U, r % 18446744073709551616 = U := ⟨_, rfl⟩
  rw [hU] at u1
  have hU0 : 0 ≤ U := by omega
  obtain ⟨R, hR⟩ : ∃ R, r % 2147483648 = R := ⟨_, rfl⟩
  have u2 : U % 2147483648 = R := by omega
  have u3 : U.tmod 2147483648 = R := by rw [Int.tmod_eq_emod_of_nonneg hU0]; exact u2
  have u4 : IntKind.i64.wrap R = R := IntWalk.i64_in _ (by omega)
  have hR0 : 0 ≤ R := by omega
  have hR1 : R < 2147483648 := by omega
  have HRR := Lib.hid hR
  clear hU hR h hl hn hok
  go_enter Try.func25, Try.ntmps25
  go_wp2_with fail
  go_loopg [8] n (fun gk s8 wr => ∃ (i : Nat), i ≤ n ∧ gk = n - i ∧ s8 = .int .i64 (i : Nat) ∧ Hid (moOf (ms.take i) r = none) ∧ w = wr)
  case atStart => exact ⟨0, by omega, rfl, rfl, Lib.hid rfl, rfl⟩
  case round =>
    obtain ⟨i, hi, rfl, rfl, HR, rfl⟩ := hrel
    obtain ⟨-, c0, -, fz⟩ := HQ.out.1.facts
    by_cases hlt : i < n
    · have hli : (i : Int) < n := by omega
      obtain ⟨p, hp⟩ : ∃ p, ms[i]? = some p := ⟨_, List.getElem?_eq_getElem (by rw [HQ.out.2.1]; exact hlt)⟩
      obtain ⟨g, cap, eg, -, -, q0⟩ := moC_cell (j := 0) HQ.out.1.mr hp rfl
      obtain ⟨g2, cap2, eg2, -, -, q1⟩ := moC_cell (j := 1) HQ.out.1.mr hp rfl
      obtain ⟨rfl, rfl⟩ : po = some ⟨g, 0, none⟩ ∧ cp = cap := by
        injection eg with e1 _ e2
        exact ⟨e1, e2⟩
      obtain rfl : g = g2 := by
        injection eg2 with e1
        injection e1 with e1
        injection e1 with e1
      rw [Nat.add_zero] at q0
      have hsp : moOf (ms.take (i + 1)) r = if p.ref = r then some p else none := by
        obtain ⟨hj, hjx⟩ := List.getElem?_eq_some_iff.1 hp
        have h1 := HR.out
        unfold moOf at h1 ⊢
        rw [List.take_succ_eq_append_getElem hj, hjx, List.find?_append, h1]
        by_cases h : p.ref = r <;> simp [h]
      have hall : p.ref = r → moOf ms r = some p := fun e => by
        have h1 : ms = ms.take (i + 1) ++ ms.drop (i + 1) := (List.take_append_drop _ _).symm
        rw [if_pos e] at hsp
        unfold moOf at hsp ⊢
        rw [h1, List.find?_append, hsp]
        rfl
      have HP := Lib.hid hp
      obtain ⟨p1, p0, p2⟩ := p
      have HA := Lib.hid (And.intro hsp hall)
      clear eg eg2 hp hsp hall
      by_cases h1 : p1 = r
      · subst h1
        by_cases h2 : p0 = who
        · subst h2
          have hd : demKind ms p1 p0 = 0 := by unfold demKind; rw [HA.out.2 rfl]; exact if_pos rfl
          have hwd : Kp (fun _ => False) w w.drew := (Kp.refl _ w).drew
          have hcd := HQ.out.1.same hwd
          obtain ⟨v', w6, hr, ho, hk6, hat⟩ := moC_cut (i := i) hcd.mr HQ.out.2.1 hlt (by rw [← HQ.out.2.1]; exact HQ.out.2.2.2)
          obtain ⟨f1, f2, f3⟩ := HQ.out.1.setm hwd (hk6.mono fun q _ e => by rw [e]; rfl) ho (fun q hq => (hat q hq).imp (fun e => by rw [e]; rfl) (fun e => Nat.le_trans hwd.size e)) (.pointer none)
          obtain ⟨po2, c2, rfl, -, -⟩ := ownsS_form ho
          obtain ⟨n2, hn2⟩ : ∃ n2, (ms.take i ++ ms.drop (i + 1)).length = n2 := ⟨_, rfl⟩
          rw [hn2] at hr f3
          rw [← butRef_at HQ.out.2.2.1 HP.out] at f3
          have HR6 := Lib.hid hr
          have HG := Lib.hid (And.intro hd f3)
          have hic : i ≤ cp := by omega
          have hi1 : IntKind.i64.wrap ((i : Int) + 1) = ((i + 1 : Nat) : Int) := by rw [IntWalk.i64_in _ (by omega)]; rfl
          have hi2 : (i : Int) + 1 ≤ (n : Int) := by omega
          have hi4 : (0 : Int) ≤ (i : Int) + 1 := by omega
          have hi3 : i + 1 ≤ cp := by omega
          clear hr f3 hat ho hk6 hcd hwd hn2 hd HA
          go_wp2_with fail
          go_region_law (refine step_run (by rfl) (.tmp 53) (.tmp 60) 57 (by rfl) (.slice (some ⟨g, 0, none⟩) i i) (.slice (if cp = i + 1 then some ⟨g, 0, none⟩ else some ⟨g, (i + 1) * 3, none⟩) (n - (i + 1)) (cp - (i + 1))) (by first | (simp [Act.eval]; done) | simp [Act.eval, Act.put]) (by first | (simp [Act.eval]; done) | simp [Act.eval, Act.put]) _ _ HR6.out ?_)
          all_goals go_wp2_with fail
          all_goals go_ret
          all_goals exact .inl HG.out
        · have h2b : (p0 == who) = false := by rw [beq_eq_false_iff_ne]; exact h2
          have hd : demKind ms p1 who = 1 := by unfold demKind; rw [HA.out.2 rfl]; exact if_neg h2
          have HD := Lib.hid hd
          clear HR HA h2 hd
          go_wp2_with (go_at_call 41; refine (k_any _ _).mono ?_; rintro e wc ⟨rfl, rfl⟩)
          go_ret
          refine .inr ⟨by rw [HD.out]; decide, ?_⟩
          rw [HD.out, HRR.out]
          exact xbad1 w (fun v => v) ⟨#[100, 101, 109, 111, 110, 105, 116, 111, 114]⟩ R 1 0
      · have h1b : (p1 == r) = false := by rw [beq_eq_false_iff_ne]; exact h1
        have HF : Hid (moOf (ms.take (i + 1)) r = none) := Lib.hid (by rw [HA.out.1]; exact if_neg h1)
        clear HR HA h1
        go_wp2_with fail
        go_roundg (n - (i + 1))
        case measure => omega
        case rel => exact ⟨i + 1, by omega, rfl, by go_num, HF, rfl⟩
    · obtain rfl : i = n := by omega
      have hno : moOf ms r = none := by
        have h1 := HR.out
        rwa [List.take_of_length_le (by rw [HQ.out.2.1]; exact Nat.le_refl _)] at h1
      have hd : demKind ms r who = 3 := by unfold demKind; rw [hno]
      have HD := Lib.hid hd
      clear HR hno hd
      go_wp2_with (go_at_call 41; refine (k_any _ _).mono ?_; rintro e wc ⟨rfl, rfl⟩)
      go_ret
      refine .inr ⟨by rw [HD.out]; decide, ?_⟩
      rw [HD.out, HRR.out]
      exact xbad1 w (fun v => v) ⟨#[100, 101, 109, 111, 110, 105, 116, 111, 114]⟩ R 3 0
end
end Go.Proofs.Ytmfhmnlgffgcgaa
