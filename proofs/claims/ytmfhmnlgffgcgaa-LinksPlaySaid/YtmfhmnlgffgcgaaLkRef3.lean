/- The document's own net: Link, Unlink. -/
import Derived.Test.YtmfhmnlgffgcgaaLkRef2
import Derived.Deep.RegionLaw
import Derived.Deep.RegionWith
namespace Go.Proofs.Ytmfhmnlgffgcgaa
open Go.RowKit
set_option linter.unusedVariables false

section
variable {P : Program} {w : World}
theorem lk_run_fn {a : Act} {f : FuncId} {xs : Array Operand} {ts : Array TypeId} {o : Oper} (ho : o.op = .call { callee := .value (.func f), args := xs, argTypes := ts })
    (hcf : ∀ (args : Array Value) (w : World), (callFunc f args).run P w = .ok (.enter f args) w) {vs : Array Value} (hx : xs.map a.eval = vs) : (execOp a.eval o).run P w = .ok (.enter f vs) w := by
  have hev : a.eval (.func f) = .func (.func f) #[] #[] := rfl
  unfold execOp
  simp only [ho, resolve, invoke, hx, hev, Deferred.ofValue]
  simp [hcf]
theorem lk_step_fn {ops : Array Oper} {o : Oper} {a : Act} {K : Act → World → Prop} {Q : Exit → Act → World → Prop} {E : Prop} (hgd : o.guard = none) (f : FuncId) (xs : Array Operand) (ts : Array TypeId)
    (ho : o.op = .call { callee := .value (.func f), args := xs, argTypes := ts }) (hcf : ∀ (args : Array Value) (w : World), (callFunc f args).run P w = .ok (.enter f args) w) (vs : Array Value) (hx : xs.map a.eval = vs)
    (h : Calls P f vs w fun e w' => ∃ v, e = .returned v ∧ K (a.put o.dst v) w') : if Region.wanted o (yielded ops a.tmps) = true then Oper.wp P o a w K Q else E := by
  have hw : Region.wanted o (yielded ops a.tmps) = true := by simp [Region.wanted, hgd]
  rw [if_pos hw]
  unfold Oper.wp
  rw [lk_run_fn ho hcf hx, Oper.upon_enter]
  refine h.mono ?_
  rintro e w' ⟨v, rfl, hK⟩
  exact hK
end
theorem cf_pair (args : Array Value) (w : World) : (callFunc 36 args).run Try.prog w = .ok (.enter 36 args) w := by kernel_rfl
theorem take_moreA {α : Type} {l : List α} {j : Nat} {x : α} (hx : l[j]? = some x) : l.take (j + 1) = l.take j ++ [x] := by
  obtain ⟨hj, hjx⟩ := List.getElem?_eq_some_iff.1 hx
  rw [List.take_succ_eq_append_getElem hj, hjx]

section
variable {F : Nat → Prop} {w w' : World} {b next : Nat} {v vl vm : Value} {ls : List (Int × Int)} {ms : List Mo} {a x : Int}
theorem but_at {S : List (Int × Int)} {i : Nat} {p : Int × Int} (hn : S.Nodup) (hi : S[i]? = some p) : butPair S p = S.take i ++ S.drop (i + 1) := by
  obtain ⟨hlt, hp⟩ := List.getElem?_eq_some_iff.1 hi
  have h1 : S = S.take i ++ p :: S.drop (i + 1) := by
    rw [← hp, List.getElem_cons_drop, List.take_append_drop]
  rw [h1, List.nodup_append, List.nodup_cons] at hn
  obtain ⟨-, ⟨h2, -⟩, h3⟩ := hn
  conv => lhs; rw [h1]
  unfold butPair
  rw [List.filter_append, List.filter_cons_of_neg (by simp)]
  congr 1
  · rw [List.filter_eq_self]
    intro q hq
    have := h3 q hq p (by simp)
    simpa using this
  · rw [List.filter_eq_self]
    intro q hq
    simp
    exact fun e => h2 (e ▸ hq)
set_option maxRecDepth 100000 in
set_option maxHeartbeats 8000000 in
theorem xlink_any (h : RNt w b vl vm ls ms next) (ha : I64 a) (hx : I64 x) (hl : ls.length + 1 ≤ 8796093022208) :
    Calls Try.prog 20 #[.pointer (some ⟨b, 0, none⟩), .int .i64 a, .int .i64 x] w (RTo w b vl vm (addLk ls a x) ms next (.bool (!decide (a = x ∨ lk a x ∈ ls)))) := by
  by_cases hax : a = x
  · unfold addLk
    rw [if_pos (.inl hax), decide_eq_true (.inl hax)]
    have HF : Hid (RTo w b vl vm ls ms next (.bool false) (.returned (.bool false)) w) := Lib.hid (RTo.quiet h rfl (Kp.refl _ w))
    subst hax
    clear h
    go_enter Try.func20, Try.ntmps20
    go_wp2_with fail
    go_ret
    exact HF.out
  · have hab : (a == x) = false := by rw [beq_eq_false_iff_ne]; exact hax
    obtain ⟨po, cp, hvl, hcp, hcp2⟩ := ownsS_form h.lr
    obtain ⟨n, hn⟩ : ∃ n, ls.length = n := ⟨_, rfl⟩
    have HQ := Lib.hid (And.intro h (And.intro hn (And.intro hvl (And.intro hax hl))))
    rw [hn] at hvl hcp
    have HV := Lib.hid hvl
    subst hvl
    have hnm : (n : Int) ≤ 8796093022208 := by omega
    have HLK : Hid (∃ p q : Int, lk a x = (p, q)) := Lib.hid ⟨_, _, rfl⟩
    obtain ⟨P, Q, hPQ⟩ := HLK.out
    have HPQ := Lib.hid hPQ
    obtain ⟨D, hD⟩ : ∃ D, (!decide (a = x ∨ lk a x ∈ ls)) = D := ⟨_, rfl⟩
    obtain ⟨L', hL'⟩ : ∃ L', addLk ls a x = L' := ⟨_, rfl⟩
    rw [hD, hL']
    have HD := Lib.hid (And.intro hD hL')
    clear h hax hl ha hx hPQ HLK hD hL' hn
    go_enter Try.func20, Try.ntmps20
    go_wp2_with fail
    go_loopg [7] n (fun gk s7 wr => ∃ i : Nat, i ≤ n ∧ gk = n - i ∧ s7 = .int .i64 (i : Nat) ∧ Hid (lk a x ∉ ls.take i ∧ Kp (fun _ => False) w wr))
    case atStart => exact ⟨0, by omega, rfl, rfl, Lib.hid ⟨by simp, Kp.refl _ _⟩⟩
    case round =>
      obtain ⟨i, hi, rfl, rfl, HR⟩ := hrel
      have hrr := HQ.out.1.same HR.out.2
      obtain ⟨c0, -, -, -⟩ := hrr.facts
      by_cases hlt : i < n
      · have hli : (i : Int) < n := by omega
        obtain ⟨p, hp⟩ : ∃ p, ls[i]? = some p := ⟨_, List.getElem?_eq_getElem (by rw [HQ.out.2.1]; exact hlt)⟩
        obtain ⟨g, cap, eg, -, -, q0⟩ := lkC_cell (j := 0) hrr.lr hp rfl
        obtain ⟨g2, cap2, eg2, -, -, q1⟩ := lkC_cell (j := 1) hrr.lr hp rfl
        obtain ⟨rfl, rfl⟩ : po = some ⟨g, 0, none⟩ ∧ cp = cap := by
          injection eg with e1 _ e2
          exact ⟨e1, e2⟩
        obtain rfl : g = g2 := by
          injection eg2 with e1
          injection e1 with e1
          injection e1 with e1
        rw [Nat.add_zero] at q0
        obtain ⟨p1, p2⟩ := p
        have HF1 : Hid (∀ w5, Kp (fun _ => False) wr.drew w5 → w5.cell? ⟨b, 0, none⟩ = some (.slice (some ⟨g, 0, none⟩) n cp) ∧ w5.cell? ⟨g, i * 2, none⟩ = some (.int .i64 p1) ∧ w5.cell? ⟨g, i * 2 + 1, none⟩ = some (.int .i64 p2)) := Lib.hid fun w5 hk5 =>
          ⟨(hk5.cell (p := ⟨b, 0, none⟩) (World.block_lt_of_cell? _ _ c0) (fun e => e)).trans c0, (hk5.cell (p := ⟨g, i * 2, none⟩) (World.block_lt_of_cell? _ _ q0) (fun e => e)).trans q0, (hk5.cell (p := ⟨g, i * 2 + 1, none⟩) (World.block_lt_of_cell? _ _ q1) (fun e => e)).trans q1⟩
        have HPr : Hid (Calls Try.prog 36 #[.int .i64 a, .int .i64 x] wr.drew fun e w' => e = .returned (.agg #[.int .i64 P, .int .i64 Q]) ∧ Kp (fun _ => False) wr.drew w') := Lib.hid (by have := pair_any wr.drew a x; rw [HPQ.out] at this; exact this)
        have heq := Try.lkEqL
        have HP := Lib.hid hp
        clear eg eg2 hrr hp
        by_cases hpq : p1 = P ∧ p2 = Q
        · obtain ⟨rfl, rfl⟩ := hpq
          have hin : lk a x ∈ ls := by rw [HPQ.out]; exact List.mem_of_getElem? HP.out
          have hfin : D = false ∧ L' = ls := by
            obtain ⟨h1, h2⟩ := HD.out
            unfold addLk at h2
            rw [decide_eq_true (.inr hin)] at h1
            rw [if_pos (.inr hin)] at h2
            exact ⟨h1.symm, h2.symm⟩
          obtain ⟨rfl, rfl⟩ := hfin
          clear hin
          go_wp2_with fail
          go_region_with (go_at_call 36; refine HPr.out.mono ?_; rintro e w5 ⟨rfl, hk5⟩; obtain ⟨d0, d1, d2⟩ := HF1.out w5 hk5; have HK5 := Lib.hid hk5; clear hk5)
          all_goals
            clear d0 d1 d2 HF1 HPr c0 q0 q1
            go_wp2_with fail
            go_ret
            exact RTo.quiet HQ.out.1 rfl (HR.out.2.trans' ((Kp.refl _ wr).drew.trans' HK5.out))
        · have hb2 : (p1 == P && p2 == Q) = false := by
            rw [Bool.and_eq_false_iff, beq_eq_false_iff_ne, beq_eq_false_iff_ne]
            by_cases e : p1 = P
            · exact .inr fun e2 => hpq ⟨e, e2⟩
            · exact .inl e
          have heq2 : ∀ w, (binOp .eql 76 (.agg #[.int .i64 p1, .int .i64 p2]) (.agg #[.int .i64 P, .int .i64 Q])).run Try.prog w = .ok (.bool false) w := fun w => by rw [Try.lkEqL, hb2]
          have hno : lk a x ∉ ls.take (i + 1) := by
            rw [take_moreA HP.out, List.mem_append]
            rintro (e | e)
            · exact HR.out.1 e
            · simp at e
              rw [HPQ.out] at e
              obtain ⟨e1, e2⟩ := Prod.mk.inj e
              exact hpq ⟨e1.symm, e2.symm⟩
          have HNO := Lib.hid hno
          clear heq hb2 hpq hno
          go_wp2_with fail
          go_region_with (go_at_call 36; refine HPr.out.mono ?_; rintro e w5 ⟨rfl, hk5⟩; obtain ⟨d0, d1, d2⟩ := HF1.out w5 hk5; have HK5 := Lib.hid hk5; clear hk5)
          all_goals
            have HF : Hid (lk a x ∉ ls.take (i + 1) ∧ Kp (fun _ => False) w w5) := Lib.hid ⟨HNO.out, HR.out.2.trans' ((Kp.refl _ wr).drew.trans' HK5.out)⟩
            clear d0 d1 d2 HF1 HPr c0 q0 q1
            go_wp2_with fail
            go_roundg (n - (i + 1))
            case measure => omega
            case rel => exact ⟨i + 1, by omega, rfl, by go_num, HF⟩
      · obtain rfl : i = n := by omega
        have hno : lk a x ∉ ls := by
          have := HR.out.1
          rwa [List.take_of_length_le (by rw [HQ.out.2.1]; exact Nat.le_refl _)] at this
        have hfin : D = true ∧ L' = ls ++ [(P, Q)] := by
          obtain ⟨h1, h2⟩ := HD.out
          have hne : ¬ (a = x ∨ lk a x ∈ ls) := fun e => e.elim HQ.out.2.2.2.1 hno
          unfold addLk at h2
          rw [decide_eq_false hne] at h1
          rw [if_neg hne, HPQ.out] at h2
          exact ⟨h1.symm, h2.symm⟩
        obtain ⟨rfl, rfl⟩ := hfin
        have HPr : Hid (Calls Try.prog 36 #[.int .i64 a, .int .i64 x] wr.drew fun e w' => e = .returned (.agg #[.int .i64 P, .int .i64 Q]) ∧ Kp (fun _ => False) wr.drew w') := Lib.hid (by have := pair_any wr.drew a x; rw [HPQ.out] at this; exact this)
        have HA : Hid (∀ w5, Kp (fun _ => False) wr.drew w5 → ∃ po2 n2 c2 w6, (Builtin.append_ #[56, 56] 56 #[.slice po i cp, .slice (some ⟨w5.heap.size, 0, none⟩) 1 1]).run Try.prog (w5.alloc (.cells #[.int .i64 P, .int .i64 Q] 76)) = .ok (.slice po2 n2 c2) w6 ∧
            w5.cell? ⟨b, 0, none⟩ = some (.slice po i cp) ∧ (w5.alloc (.cells #[.int .i64 P, .int .i64 Q] 76)).cell? ⟨b, 0, none⟩ = some (.slice po i cp) ∧ w6.cell? ⟨b, 0, none⟩ = some (.slice po i cp) ∧ (∀ j, w6.frozen? ⟨b, j, none⟩ = false) ∧ Hid (RTo w b (.slice po i cp) vm (ls ++ [(P, Q)]) ms next (.bool true) (.returned (.bool true)) (w6.setCell ⟨b, 0, none⟩ (.slice po2 n2 c2)))) := by
          refine Lib.hid fun w5 hk5 => ?_
          have hk0 : Kp (fun _ => False) w w5 := HR.out.2.trans' ((Kp.refl _ wr).drew.trans' hk5)
          have h5 := HQ.out.1.same hk0
          have hkA := hk0.alloc (.cells #[.int .i64 P, .int .i64 Q] 76)
          obtain ⟨v', w6, hr, ho, hk6, hat⟩ := lkC_push (HQ.out.1.same hkA).lr (P, Q) (heap_alloc_new w5 _) HQ.out.2.2.2.2
          obtain ⟨f1, f2, f3⟩ := HQ.out.1.setl hkA hk6 ho (fun g hg => (hat g hg).imp id (fun e => Nat.le_trans hkA.size e)) (.bool true)
          obtain ⟨po2, c2, rfl, -, -⟩ := ownsS_form ho
          exact ⟨po2, _, c2, w6, hr, h5.facts.1, (HQ.out.1.same hkA).facts.1, f1, f2, Lib.hid f3⟩
        clear hno hrr
        go_wp2_with fail
        go_region_law (first
          | (refine lk_step_fn (by rfl) 36 #[.tmp 36, .tmp 37] #[2, 2] (by rfl) cf_pair #[.int .i64 a, .int .i64 x] (by first | (simp [Act.eval]; done) | simp [Act.eval, Act.put]) ?_; refine HPr.out.mono ?_; rintro e w5 ⟨rfl, hk5⟩; refine ⟨_, rfl, ?_⟩; obtain ⟨po2, n2, c2, w6, hr, d0, d3, d1, d2, HG⟩ := HA.out w5 hk5; have HR6 := Lib.hid hr; clear hr hk5)
          | (refine step_run (by rfl) (.tmp 35) (.tmp 39) 56 (by rfl) (.slice po i cp) (.slice (some ⟨w5.heap.size, 0, none⟩) 1 1) (by first | (simp [Act.eval]; done) | simp [Act.eval, Act.put]) (by first | (simp [Act.eval]; done) | simp [Act.eval, Act.put]) _ _ HR6.out ?_))
        all_goals
          go_wp2_with fail
          go_ret
          exact HG.out
end
end Go.Proofs.Ytmfhmnlgffgcgaa
