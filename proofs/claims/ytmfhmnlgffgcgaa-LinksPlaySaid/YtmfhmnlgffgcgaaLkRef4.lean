/- The document's own net: Unlink. -/
import Derived.Test.YtmfhmnlgffgcgaaLkRef3
import Derived.Deep.DeepCutAuto
import Derived.Deep.CutBlock
namespace Go.Proofs.Ytmfhmnlgffgcgaa
open Go.RowKit
set_option linter.unusedVariables false

section
variable {F : Nat → Prop} {w w' : World} {b next : Nat} {v vl vm : Value} {ls : List (Int × Int)} {ms : List Mo} {a x : Int}
set_option maxRecDepth 100000 in
set_option maxHeartbeats 8000000 in
theorem xunlink_any (h : RNt w b vl vm ls ms next) (hnd : ls.Nodup) (hl : ls.length ≤ 8796093022208) :
    Calls Try.prog 21 #[.pointer (some ⟨b, 0, none⟩), .int .i64 a, .int .i64 x] w (RTo w b vl vm (butPair ls (lk a x)) ms next (.bool (decide (lk a x ∈ ls)))) := by
  obtain ⟨po, cp, hvl, hcp, hcp2⟩ := ownsS_form h.lr
  obtain ⟨n, hn⟩ : ∃ n, ls.length = n := ⟨_, rfl⟩
  have HQ := Lib.hid (And.intro h (And.intro hn (And.intro hvl (And.intro hnd hl))))
  rw [hn] at hvl hcp
  subst hvl
  have hnm : (n : Int) ≤ 8796093022208 := by omega
  obtain ⟨P, Q, hPQ⟩ : ∃ p q : Int, lk a x = (p, q) := ⟨_, _, rfl⟩
  have HPQ := Lib.hid hPQ
  obtain ⟨D, hD⟩ : ∃ D, decide (lk a x ∈ ls) = D := ⟨_, rfl⟩
  obtain ⟨L', hL'⟩ : ∃ L', butPair ls (lk a x) = L' := ⟨_, rfl⟩
  rw [hD, hL']
  have HD := Lib.hid (And.intro hD hL')
  clear h hl hPQ hD hL' hn hnd
  go_enter Try.func21, Try.ntmps21
  go_wp2_with fail
  go_loopg [7] n (fun gk s7 wr => ∃ i : Nat, i ≤ n ∧ gk = n - i ∧ s7 = .int .i64 (i : Nat) ∧ Hid (lk a x ∉ ls.take i ∧ Kp (fun _ => False) w wr))
  case atStart => exact ⟨0, by omega, rfl, rfl, Lib.hid ⟨by simp, Kp.refl _ _⟩⟩
  case round =>
    obtain ⟨i, hi, rfl, rfl, HR⟩ := hrel
    have hrr := HQ.out.1.same HR.out.2
    obtain ⟨c0, -, -, -⟩ := hrr.facts
    by_cases hlt : i < n
    · have hli : (i : Int) < n := by omega
      obtain ⟨p, hp⟩ : ∃ p, ls[i]? = some p := ⟨_, List.getElem?_eq_getElem (by rw [HQ.out.2.1]; exact hlt)⟩
      obtain ⟨g, cap, eg, -, -, q0⟩ := lkC_cell (j := 0) hrr.lr hp rfl
      obtain ⟨g2, cap2, eg2, -, -, q1⟩ := lkC_cell (j := 1) hrr.lr hp rfl
      obtain ⟨rfl, rfl⟩ : po = some ⟨g, 0, none⟩ ∧ cp = cap := by
        injection eg with e1 _ e2
        exact ⟨e1, e2⟩
      obtain rfl : g = g2 := by
        injection eg2 with e1
        injection e1 with e1
        injection e1 with e1
      rw [Nat.add_zero] at q0
      obtain ⟨p1, p2⟩ := p
      have HF1 : Hid (∀ w5, Kp (fun _ => False) wr.drew w5 → w5.cell? ⟨b, 0, none⟩ = some (.slice (some ⟨g, 0, none⟩) n cp) ∧ w5.cell? ⟨g, i * 2, none⟩ = some (.int .i64 p1) ∧ w5.cell? ⟨g, i * 2 + 1, none⟩ = some (.int .i64 p2)) := Lib.hid fun w5 hk5 =>
        ⟨(hk5.cell (p := ⟨b, 0, none⟩) (World.block_lt_of_cell? _ _ c0) (fun e => e)).trans c0, (hk5.cell (p := ⟨g, i * 2, none⟩) (World.block_lt_of_cell? _ _ q0) (fun e => e)).trans q0, (hk5.cell (p := ⟨g, i * 2 + 1, none⟩) (World.block_lt_of_cell? _ _ q1) (fun e => e)).trans q1⟩
      have HPr : Hid (Calls Try.prog 36 #[.int .i64 a, .int .i64 x] wr.drew fun e w' => e = .returned (.agg #[.int .i64 P, .int .i64 Q]) ∧ Kp (fun _ => False) wr.drew w') := Lib.hid (by have := pair_any wr.drew a x; rw [HPQ.out] at this; exact this)
      have HP := Lib.hid hp
      obtain ⟨B, hB⟩ : ∃ B, (p1 == P && p2 == Q) = B := ⟨_, rfl⟩
      have HB := Lib.hid hB
      have heq2 : ∀ w, (binOp .eql 76 (.agg #[.int .i64 p1, .int .i64 p2]) (.agg #[.int .i64 P, .int .i64 Q])).run Try.prog w = .ok (.bool B) w := fun w => by rw [Try.lkEqL, HB.out]
      clear eg eg2 hrr hp hB
      go_upto_region 4 with (fail)
      go_cut [27] (fun s27 wx => s27 = .bool B ∧ Kp (fun _ => False) wr wx)
      case first =>
        go_region_with (go_at_call 36; refine HPr.out.mono ?_; rintro e w5 ⟨rfl, hk5⟩; obtain ⟨d0, d1, d2⟩ := HF1.out w5 hk5; have HK5 := Lib.hid hk5; clear hk5)
        all_goals (first | (go_wp2_with fail; go_meet; exact ⟨rfl, (Kp.refl _ wr).drew.trans' HK5.out⟩) | (simp [Act.put]; go_wp2_with fail; go_meet; exact ⟨rfl, (Kp.refl _ wr).drew.trans' HK5.out⟩))
      case rest =>
        obtain ⟨rfl, hkc⟩ := hcut
        have HK := Lib.hid (HR.out.2.trans' hkc)
        clear c0 q0 q1 HF1 HPr heq2 hkc
        cases B with
        | true =>
          have heqs : p1 = P ∧ p2 = Q := by
            have := HB.out
            rw [Bool.and_eq_true, beq_iff_eq, beq_iff_eq] at this
            exact this
          obtain ⟨rfl, rfl⟩ := heqs
          have hin : lk a x ∈ ls := by rw [HPQ.out]; exact List.mem_of_getElem? HP.out
          have hfin : D = true ∧ L' = ls.take i ++ ls.drop (i + 1) := by
            obtain ⟨h1, h2⟩ := HD.out
            rw [decide_eq_true hin] at h1
            rw [HPQ.out, but_at HQ.out.2.2.2.1 HP.out] at h2
            exact ⟨h1.symm, h2.symm⟩
          obtain ⟨rfl, rfl⟩ := hfin
          have hwd : Kp (fun _ => False) w wc.drew := HK.out.drew
          have hcd := HQ.out.1.same hwd
          obtain ⟨v', w6, hr, ho, hk6, hat⟩ := lkC_cut (i := i) hcd.lr HQ.out.2.1 hlt (by rw [← HQ.out.2.1]; exact HQ.out.2.2.2.2)
          obtain ⟨f1, f2, f3⟩ := HQ.out.1.setl hwd (hk6.mono fun q _ e => by rw [e]; rfl) ho (fun q hq => (hat q hq).imp (fun e => by rw [e]; rfl) (fun e => Nat.le_trans hwd.size e)) (.bool true)
          obtain ⟨po2, c2, rfl, -, -⟩ := ownsS_form ho
          obtain ⟨n2, hn2⟩ : ∃ n2, (ls.take i ++ ls.drop (i + 1)).length = n2 := ⟨_, rfl⟩
          rw [hn2] at hr f3
          have HR6 := Lib.hid hr
          have HG := Lib.hid f3
          obtain ⟨d0, -, -, -⟩ := (HQ.out.1.same HK.out).facts
          have hic : i ≤ cp := by omega
          have hi1 : IntKind.i64.wrap ((i : Int) + 1) = ((i + 1 : Nat) : Int) := by rw [IntWalk.i64_in _ (by omega)]; rfl
          have hi2 : (i : Int) + 1 ≤ (n : Int) := by omega
          have hi4 : (0 : Int) ≤ (i : Int) + 1 := by omega
          have hi3 : i + 1 ≤ cp := by omega
          clear hr f3 hat ho hk6 hcd hwd hn2 hin
          go_wp2_with fail
          go_region_law (refine step_run (by rfl) (.tmp 35) (.tmp 42) 56 (by rfl) (.slice (some ⟨g, 0, none⟩) i i) (.slice (if cp = i + 1 then some ⟨g, 0, none⟩ else some ⟨g, (i + 1) * 2, none⟩) (n - (i + 1)) (cp - (i + 1))) (by first | (simp [Act.eval]; done) | simp [Act.eval, Act.put]) (by first | (simp [Act.eval]; done) | simp [Act.eval, Act.put]) _ _ HR6.out ?_)
          all_goals go_wp2_with fail
          all_goals go_ret
          all_goals exact HG.out
        | false =>
          have hno : lk a x ∉ ls.take (i + 1) := by
            rw [take_moreA HP.out, List.mem_append]
            rintro (e | e)
            · exact HR.out.1 e
            · simp at e
              rw [HPQ.out] at e
              obtain ⟨rfl, rfl⟩ := Prod.mk.inj e
              have := HB.out
              simp at this
          have HF : Hid (lk a x ∉ ls.take (i + 1) ∧ Kp (fun _ => False) w wc) := Lib.hid ⟨hno, HK.out⟩
          clear hno
          go_wp2_with fail
          go_roundg (n - (i + 1))
          case measure => omega
          case rel => exact ⟨i + 1, by omega, rfl, by go_num, HF⟩
    · obtain rfl : i = n := by omega
      have hno : lk a x ∉ ls := by
        have := HR.out.1
        rwa [List.take_of_length_le (by rw [HQ.out.2.1]; exact Nat.le_refl _)] at this
      have hfin : D = false ∧ L' = ls := by
        obtain ⟨h1, h2⟩ := HD.out
        rw [decide_eq_false hno] at h1
        rw [butPair_none hno] at h2
        exact ⟨h1.symm, h2.symm⟩
      obtain ⟨rfl, rfl⟩ := hfin
      clear hno hrr
      go_wp2_with fail
      go_ret
      exact RTo.quiet HQ.out.1 rfl HR.out.2
end
end Go.Proofs.Ytmfhmnlgffgcgaa
