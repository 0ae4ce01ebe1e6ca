/- An instruction, by its operands: of any Op. A function that is right, with functions of bif too; one instruction more that is never reached. (Plain data.) -/
import Derived.Test.YtpdepmkojbpklaaDoorM20
import Derived.Test.YtpdepmkojbpklaaDoorM26
/- An instruction, by its operands: of any Op. -/
namespace Go.Proofs.YtpdepmkojbpklaaDoor
open Go.RowKit

def vinsA (tab : Nat → Int) (nl nf nc : Nat) (sl : Int) (x : In4) (ar : Int) : Option Int :=
  if ¬ (1 ≤ x.op ∧ x.op ≤ 41) then some 1
  else match vopA nl nf nc sl (vsh x.op 0) x.a with
    | some k => some k
    | none => match vopA nl nf nc sl (vsh x.op 1) x.b with
      | some k => some k
      | none => match vopA nl nf nc sl (vsh x.op 2) x.c with
        | some k => some k
        | none => if 16 - (vregsA tab x ar).1 < (vregsA tab x ar).2 then some 12 else none
section
variable {tab : Nat → Int} {nl nf nc : Nat} {sl : Int} {x : In4} {ar : Int} {o : Nat} {k : Int}
theorem vinsA_0 (h : 1 ≤ x.op ∧ x.op ≤ 41) (ho : x.op = o) (h0 : vopA nl nf nc sl (vsh o 0) x.a = some k) : vinsA tab nl nf nc sl x ar = some k := by
  unfold vinsA; rw [if_neg (by simpa using h), ho, h0]
theorem vinsA_1 (h : 1 ≤ x.op ∧ x.op ≤ 41) (ho : x.op = o) (h0 : vopA nl nf nc sl (vsh o 0) x.a = none) (h1 : vopA nl nf nc sl (vsh o 1) x.b = some k) : vinsA tab nl nf nc sl x ar = some k := by
  unfold vinsA; rw [if_neg (by simpa using h), ho, h0]; simp only [h1]
theorem vinsA_2 (h : 1 ≤ x.op ∧ x.op ≤ 41) (ho : x.op = o) (h0 : vopA nl nf nc sl (vsh o 0) x.a = none) (h1 : vopA nl nf nc sl (vsh o 1) x.b = none) (h2 : vopA nl nf nc sl (vsh o 2) x.c = some k) : vinsA tab nl nf nc sl x ar = some k := by
  unfold vinsA; rw [if_neg (by simpa using h), ho, h0]; simp only [h1, h2]
theorem vinsA_3 (h : 1 ≤ x.op ∧ x.op ≤ 41) (ho : x.op = o) (h0 : vopA nl nf nc sl (vsh o 0) x.a = none) (h1 : vopA nl nf nc sl (vsh o 1) x.b = none) (h2 : vopA nl nf nc sl (vsh o 2) x.c = none) :
    vinsA tab nl nf nc sl x ar = if 16 - (vregsA tab x ar).1 < (vregsA tab x ar).2 then some 12 else none := by
  unfold vinsA; rw [if_neg (by simpa using h), ho, h0]; simp only [h1, h2]
end
set_option maxRecDepth 100000 in
set_option maxHeartbeats 8000000 in
theorem instructionA {tab : Nat → Int} {w : World} {R : Nat} {pl : Option Addr} {nl cl : Nat} {pf : Option Addr} {nf cf : Nat} {sl : Int} {pc : Option Addr} {nc cc : Nat} (hF : LaidF tab w) (h : RdAt w R pl nl cl pf nf cf sl pc nc cc) (hsh : ∀ (o i : Nat), o < 42 → i < 3 → w.cell? ⟨R, 7 + o * 3 + i, none⟩ = some (.int .i64 (vsh o i)))
    (hnl : nl ≤ 100000) (hnf : nf ≤ 100000) (hnc : nc ≤ 100000) (hs0 : 0 ≤ sl) (hs1 : sl ≤ 32) (x : In4) (ar : Int)
    (hf : x.op = 16 → ∀ k : Nat, x.b = k → k < nf → ∃ (b off : Nat), pf = some ⟨b, off, none⟩ ∧ w.cell? ⟨b, off + k * 4 + 1, none⟩ = some (.int .i64 ar)) :
    Calls Tryd.prog 51 #[.pointer (some ⟨R, 0, none⟩), .agg #[.int .i64 x.op, .int .i64 x.a, .int .i64 x.b, .int .i64 x.c]] w fun e w' => e = .returned (errv (vinsA tab nl nf nc sl x ar)) ∧ Kp (fun _ => False) w w' := by
  have HF0 := Lib.hid hF
  clear hF
  obtain ⟨w1, hw1⟩ : ∃ w1, w.alloc (.cells #[.int .i64 x.op, .int .i64 x.a, .int .i64 x.b, .int .i64 x.c] 29) = w1 := ⟨_, rfl⟩
  have hk1 : Kp (fun _ => False) w w1 := by rw [← hw1]; exact (Kp.refl _ w).alloc _
  have hb : w1.heap[w.heap.size]? = some (.cells #[.int .i64 x.op, .int .i64 x.a, .int .i64 x.b, .int .i64 x.c] 29 (0, 0)) := by rw [← hw1]; exact heap_alloc_new w _
  obtain ⟨y0, y1, y2, y3, yf⟩ := vfour_facts hb
  have kc : ∀ b i u, w.cell? ⟨b, i, none⟩ = some u → w1.cell? ⟨b, i, none⟩ = some u := fun b i u e => (hk1.cell (World.block_lt_of_cell? _ _ e) (fun e => e)).trans e
  have hr1 : RdAt w1 R pl nl cl pf nf cf sl pc nc cc := ⟨kc _ _ _ h.lits, kc _ _ _ h.funcs, kc _ _ _ h.slots, kc _ _ _ h.code⟩
  by_cases hop : 1 ≤ x.op ∧ x.op ≤ 41
  · obtain ⟨o, ho⟩ : ∃ o : Nat, x.op = o := ⟨x.op.toNat, by omega⟩
    have ho42 : o < 42 := by omega
    have s0 : w1.cell? ⟨R, 7 + o * 3, none⟩ = some (.int .i64 (vsh o 0)) := kc _ _ _ (hsh o 0 ho42 (by omega))
    have s1 := kc _ _ _ (hsh o 1 ho42 (by omega))
    have s2 := kc _ _ _ (hsh o 2 ho42 (by omega))
    have HS := Lib.hid (And.intro s0 (And.intro s1 s2))
    have v0 := vsh_ok ⟨o, ho42⟩ ⟨0, by omega⟩
    have v1 := vsh_ok ⟨o, ho42⟩ ⟨1, by omega⟩
    have v2 := vsh_ok ⟨o, ho42⟩ ⟨2, by omega⟩
    have hwi : wi (o : Int) 1 41 = true := wi_true.2 (by omega)
    have HF := Lib.hid (HF0.out.kp hk1)
    have H := Lib.hid (And.intro hr1 (And.intro hk1 (And.intro hop (And.intro ho (And.intro v0 (And.intro v1 v2))))))
    have i0 := three0
    have i1 := three1
    have i2 := three2
    rw [ho] at y0 hb
    have HB := Lib.hid hb
    clear h hsh hk1 hb kc hr1 hop v0 v1 v2
    rw [ho]
    rw [ho] at hw1
    have hoi : (o : Int) < 42 := by omega
    go_enter Tryd.func51, Tryd.ntmps51
    go_wp2_with fail
    refine (vin_any _ _ _ _).mono ?_
    rintro e w2 ⟨rfl, rfl⟩
    rw [hwi]
    go_wp2_with fail
    refine wp_loop_rounds 4 ?_
    rw [rounds_succ]
    go_wp2_with fail
    have HR0 := Lib.hid (fun (wx : World) (k : Kp (fun _ => False) w1 wx) => operandA (HF.out.kp k) (H.out.1.kp k) hnl hnf hnc hs0 hs1 (vsh o 0) x.a H.out.2.2.2.2.1.1 H.out.2.2.2.2.1.2.1)
    go_cut [7] (fun s7 wx => s7 = errv (vopA nl nf nc sl (vsh o 0) x.a) ∧ Kp (fun _ => False) w1 wx)
    case first =>
      go_region_law (refine vstep_fn (by rfl) 61 #[.tmp 26, .tmp 35, .tmp 36] #[134, 3, 3] (by rfl) cf_operand #[.pointer (some ⟨R, 0, none⟩), .int .i64 (vsh o 0), .int .i64 x.a] (by first | (simp [Act.eval]; done) | simp [Act.eval, Act.put]) ?_; refine (HR0.out _ (Kp.refl (fun _ => False) w1).drew).mono ?_; rintro e w5 ⟨rfl, hk5⟩; refine ⟨_, rfl, ?_⟩)
      all_goals
        refine Met.intro ?_
        go_step
        go_meet
        exact ⟨rfl, (Kp.refl (fun _ => False) w1).drew.trans' hk5⟩
    case rest =>
      obtain ⟨rfl, hkx⟩ := hcut
      have HK0 := Lib.hid hkx
      clear y0 y1 y2 y3 yf s0 s1 s2
      obtain ⟨y0, y1, y2, y3, yf⟩ := vfour_facts ((hkx.block _ (Array.getElem?_eq_some_iff.1 HB.out).1 (fun e => e)).trans HB.out)
      have s0 := keeps_cell hkx HS.out.1
      have s1 := keeps_cell hkx HS.out.2.1
      have s2 := keeps_cell hkx HS.out.2.2
      clear hkx
      rcases hv0 : vopA nl nf nc sl (vsh o 0) x.a with _ | k
      rotate_left
      · have HV := Lib.hid hv0
        clear hv0
        simp only [errv]
        go_wp2_with fail
        go_ret
        exact ⟨by rw [vinsA_0 H.out.2.2.1 H.out.2.2.2.1  HV.out]; rfl, H.out.2.1.trans' HK0.out⟩
      have HV0 := Lib.hid hv0
      clear hv0
      simp only [errv]
      go_wp2_with fail
      rw [rounds_succ]
      go_wp2_with fail
      have HR1 := Lib.hid (fun (wx : World) (k : Kp (fun _ => False) w1 wx) => operandA (HF.out.kp k) (H.out.1.kp k) hnl hnf hnc hs0 hs1 (vsh o 1) x.b H.out.2.2.2.2.2.1.1 H.out.2.2.2.2.2.1.2.1)
      go_cut [7] (fun s7 wx => s7 = errv (vopA nl nf nc sl (vsh o 1) x.b) ∧ Kp (fun _ => False) w1 wx)
      case first =>
        go_region_law (refine vstep_fn (by rfl) 61 #[.tmp 26, .tmp 35, .tmp 36] #[134, 3, 3] (by rfl) cf_operand #[.pointer (some ⟨R, 0, none⟩), .int .i64 (vsh o 1), .int .i64 x.b] (by first | (simp [Act.eval]; done) | simp [Act.eval, Act.put]) ?_; refine (HR1.out _ HK0.out.drew).mono ?_; rintro e w5 ⟨rfl, hk5⟩; refine ⟨_, rfl, ?_⟩)
        all_goals
          refine Met.intro ?_
          go_step
          go_meet
          exact ⟨rfl, HK0.out.drew.trans' hk5⟩
      case rest =>
        obtain ⟨rfl, hkx⟩ := hcut
        have HK1 := Lib.hid hkx
        clear y0 y1 y2 y3 yf s0 s1 s2
        obtain ⟨y0, y1, y2, y3, yf⟩ := vfour_facts ((hkx.block _ (Array.getElem?_eq_some_iff.1 HB.out).1 (fun e => e)).trans HB.out)
        have s0 := keeps_cell hkx HS.out.1
        have s1 := keeps_cell hkx HS.out.2.1
        have s2 := keeps_cell hkx HS.out.2.2
        clear hkx
        rcases hv1 : vopA nl nf nc sl (vsh o 1) x.b with _ | k
        rotate_left
        · have HV := Lib.hid hv1
          clear hv1
          simp only [errv]
          go_wp2_with fail
          go_ret
          exact ⟨by rw [vinsA_1 H.out.2.2.1 H.out.2.2.2.1 HV0.out HV.out]; rfl, H.out.2.1.trans' HK1.out⟩
        have HV1 := Lib.hid hv1
        clear hv1
        simp only [errv]
        go_wp2_with fail
        rw [rounds_succ]
        go_wp2_with fail
        have HR2 := Lib.hid (fun (wx : World) (k : Kp (fun _ => False) w1 wx) => operandA (HF.out.kp k) (H.out.1.kp k) hnl hnf hnc hs0 hs1 (vsh o 2) x.c H.out.2.2.2.2.2.2.1 H.out.2.2.2.2.2.2.2.1)
        go_cut [7] (fun s7 wx => s7 = errv (vopA nl nf nc sl (vsh o 2) x.c) ∧ Kp (fun _ => False) w1 wx)
        case first =>
          go_region_law (refine vstep_fn (by rfl) 61 #[.tmp 26, .tmp 35, .tmp 36] #[134, 3, 3] (by rfl) cf_operand #[.pointer (some ⟨R, 0, none⟩), .int .i64 (vsh o 2), .int .i64 x.c] (by first | (simp [Act.eval]; done) | simp [Act.eval, Act.put]) ?_; refine (HR2.out _ HK1.out.drew).mono ?_; rintro e w5 ⟨rfl, hk5⟩; refine ⟨_, rfl, ?_⟩)
          all_goals
            refine Met.intro ?_
            go_step
            go_meet
            exact ⟨rfl, HK1.out.drew.trans' hk5⟩
        case rest =>
          obtain ⟨rfl, hkx⟩ := hcut
          have HK2 := Lib.hid hkx
          clear y0 y1 y2 y3 yf s0 s1 s2
          obtain ⟨y0, y1, y2, y3, yf⟩ := vfour_facts ((hkx.block _ (Array.getElem?_eq_some_iff.1 HB.out).1 (fun e => e)).trans HB.out)
          have s0 := keeps_cell hkx HS.out.1
          have s1 := keeps_cell hkx HS.out.2.1
          have s2 := keeps_cell hkx HS.out.2.2
          clear hkx
          rcases hv2 : vopA nl nf nc sl (vsh o 2) x.c with _ | k
          rotate_left
          · have HV := Lib.hid hv2
            clear hv2
            simp only [errv]
            go_wp2_with fail
            go_ret
            exact ⟨by rw [vinsA_2 H.out.2.2.1 H.out.2.2.2.1 HV0.out HV1.out HV.out]; rfl, H.out.2.1.trans' HK2.out⟩
          have HV2 := Lib.hid hv2
          clear hv2
          simp only [errv]
          go_wp2_with fail
          rw [rounds_succ]
          go_wp2_with fail
          have hfirst : ∀ n, vopA nl nf nc sl 3 n = none → 0 ≤ n ∧ n ≤ 15 := fun n e => by
            simp only [vopA, vop, vrng] at e
            simp at e
            exact e
          have hreg : 0 ≤ (vregsA tab x ar).1 ∧ (vregsA tab x ar).1 ≤ 15 := by
            have ho := H.out.2.2.2.1
            unfold vregsA
            by_cases e12 : x.op = 12
            · rw [if_pos e12]
              obtain rfl : o = 12 := by omega
              exact hfirst _ (by have := HV2.out; rwa [show vsh ((12 : Nat) : Int) 2 = 3 from by decide] at this)
            rw [if_neg e12]
            unfold vregs
            by_cases e2 : x.op = 2
            · rw [if_pos e2]
              obtain rfl : o = 2 := by omega
              exact hfirst _ (by have := HV1.out; rwa [show vsh ((2 : Nat) : Int) 1 = 3 from by decide] at this)
            · rw [if_neg e2]
              by_cases e16 : x.op = 16
              · rw [if_pos e16]
                obtain rfl : o = 16 := by omega
                exact hfirst _ (by have := HV2.out; rwa [show vsh ((16 : Nat) : Int) 2 = 3 from by decide] at this)
              · rw [if_neg e16]
                by_cases e37 : x.op = 37
                · rw [if_pos e37]
                  obtain rfl : o = 37 := by omega
                  exact hfirst _ (by have := HV1.out; rwa [show vsh ((37 : Nat) : Int) 1 = 3 from by decide] at this)
                · rw [if_neg e37]; simp
          have hreg2 := registersA (x := x) (ar := ar) (HF.out.kp HK2.out) (H.out.1.kp HK2.out) (fun e12 => by
            obtain rfl : o = 12 := by have := H.out.2.2.2.1; omega
            have e := HV0.out
            rw [show vsh ((12 : Nat) : Int) 0 = 5 from by decide] at e
            simp only [vopA, if_true, vrng] at e
            simp at e
            omega) (fun e16 => by
            obtain rfl : o = 16 := by have := H.out.2.2.2.1; omega
            have hb : 0 ≤ x.b ∧ x.b ≤ (nf : Int) - 1 := by
              have e := HV1.out
              rw [show vsh ((16 : Nat) : Int) 1 = 6 from by decide] at e
              simp only [vopA, vop, vrng] at e
              simp at e
              omega
            obtain ⟨b, off, e1, e2⟩ := hf e16 x.b.toNat (by omega) (by omega)
            exact ⟨x.b.toNat, b, off, by omega, by omega, e1, keeps_cell HK2.out (keeps_cell H.out.2.1 e2)⟩)
          rw [H.out.2.2.2.1] at hreg2
          obtain ⟨⟨r1, r2⟩, hr⟩ : ∃ r, vregsA tab x ar = r := ⟨_, rfl⟩
          rw [hr] at hreg2 hreg
          simp only at hreg2 hreg
          have HRG := Lib.hid (And.intro hreg2 hr)
          obtain ⟨hr0, hr15⟩ := hreg
          clear hreg2 hr hfirst s0 s1 s2
          refine HRG.out.1.mono ?_
          rintro e w6 ⟨rfl, hk6⟩
          have H6 := Lib.hid hk6
          clear hk6 y0 y1 y2 y3 yf
          by_cases hbig : 16 - r1 < r2
          · go_wp2_with fail
            go_ret
            exact ⟨by rw [vinsA_3 H.out.2.2.1 H.out.2.2.2.1 HV0.out HV1.out HV2.out, HRG.out.2, if_pos hbig]; rfl, (H.out.2.1.trans' HK2.out).trans' H6.out⟩
          · go_wp2_with fail
            go_ret
            exact ⟨by rw [vinsA_3 H.out.2.2.1 H.out.2.2.2.1 HV0.out HV1.out HV2.out, HRG.out.2, if_neg (by simpa using hbig)]; rfl, (H.out.2.1.trans' HK2.out).trans' H6.out⟩
  · have hv : vinsA tab nl nf nc sl x ar = some 1 := by unfold vinsA; rw [if_pos hop]
    have hwi : wi x.op 1 41 = false := by
      rcases hb : wi x.op 1 41 with _ | _
      · rfl
      · exact absurd (wi_true.1 hb) hop
    rw [hv]
    have H := Lib.hid hk1
    clear h hsh hk1 hb kc hr1 hop
    go_enter Tryd.func51, Tryd.ntmps51
    go_wp2_with fail
    refine (vin_any _ _ _ _).mono ?_
    rintro e w2 ⟨rfl, rfl⟩
    rw [hwi]
    go_wp2_with fail
    go_ret
    exact ⟨rfl, H.out⟩
end Go.Proofs.YtpdepmkojbpklaaDoor

/- A function that is right, with functions of bif too; one instruction more that is never reached. (Plain data.) -/
namespace Go.Proofs.YtpdepmkojbpklaaDoor
open Go.RowKit

/-- what is wrong with an instruction of a function -/
def vcodeA (tab : Nat → Int) (nl : Nat) (fns : List Fn4) (f : Fn4) (x : In4) : Option Int := vinsA tab nl fns.length f.code.length f.slots x (arOf fns x)
/-- a function that is right -/
structure FunGoodA (tab : Nat → Int) (nl : Nat) (fns : List Fn4) (i : Nat) (f : Fn4) : Prop where
  head : vhead fns i f = true
  ins : ∀ (p : Nat) (x : In4), f.code[p]? = some x → vcodeA tab nl fns f x = none
  walk : ∃ ts, Walked f.code ts
/-- an instruction that is wrong, and how -/
def FunSlipA (tab : Nat → Int) (nl : Nat) (fns : List Fn4) (i : Nat) (f : Fn4) (p : Nat) (k : Int) : Prop :=
  vhead fns i f = true ∧ ((∃ x, f.code[p]? = some x ∧ (∀ (j : Nat) (y : In4), j < p → f.code[j]? = some y → vcodeA tab nl fns f y = none) ∧ vcodeA tab nl fns f x = some k) ∨
    ((∀ (q : Nat) (x : In4), f.code[q]? = some x → vcodeA tab nl fns f x = none) ∧ ∃ t, Reach f.code p t ∧ StepBad f.code p t k))
theorem vinsA_eq {tab : Nat → Int} {nl nf nc : Nat} {sl : Int} {x : In4} {ar : Int} (h : x.op ≠ 12) : vinsA tab nl nf nc sl x ar = vins nl nf nc sl x ar := by
  unfold vinsA vins
  by_cases hop : 1 ≤ x.op ∧ x.op ≤ 41
  · obtain ⟨o, ho⟩ : ∃ o : Nat, x.op = o := ⟨x.op.toNat, by omega⟩
    have ho42 : o < 42 := by omega
    have v0 := (vsh_ok ⟨o, ho42⟩ ⟨0, by omega⟩).2.2 (by simp only; omega)
    have v1 := (vsh_ok ⟨o, ho42⟩ ⟨1, by omega⟩).2.2 (by simp only; omega)
    have v2 := (vsh_ok ⟨o, ho42⟩ ⟨2, by omega⟩).2.2 (by simp only; omega)
    simp only at v0 v1 v2
    rw [ho]
    have e0 : ∀ n, vopA nl nf nc sl (vsh o 0) n = vop nl nf nc sl (vsh o 0) n := fun n => if_neg v0
    have e1 : ∀ n, vopA nl nf nc sl (vsh o 1) n = vop nl nf nc sl (vsh o 1) n := fun n => if_neg v1
    have e2 : ∀ n, vopA nl nf nc sl (vsh o 2) n = vop nl nf nc sl (vsh o 2) n := fun n => if_neg v2
    have e3 : vregsA tab x ar = vregs x ar := if_neg h
    simp only [e0, e1, e2, e3]
    rfl
  · rw [if_pos hop, if_pos hop]
theorem vinsA_nz {tab : Nat → Int} {nl nf nc : Nat} {sl : Int} {x : In4} {ar k : Int} (h : vinsA tab nl nf nc sl x ar = some k) : k ≠ 0 := by
  have hz : ∀ {what n k : Int}, vopA nl nf nc sl what n = some k → k ≠ 0 := fun {what n k} e => by
    unfold vopA at e
    split at e
    · exact vrng_nz (by decide) e
    · exact vop_nz e
  unfold vinsA at h
  repeat' split at h
  · cases h; decide
  · rename_i e; cases h; exact hz e
  · rename_i e; cases h; exact hz e
  · rename_i e; cases h; exact hz e
  · cases h; decide
  · cases h
theorem labOk_ofA {tab : Nat → Int} {nl nf : Nat} {sl : Int} {code : List In4} {ar : Nat → Int} (h : ∀ (i : Nat) (x : In4), code[i]? = some x → vinsA tab nl nf code.length sl x (ar i) = none) : LabOk code := by
  intro i x t s q u hx hs hm
  have hi := (List.getElem?_eq_some_iff.1 hx).1
  have hg : (x.op = 4 ∨ x.op = 5 ∨ x.op = 6 ∨ x.op = 7 ∨ x.op = 8 ∨ x.op = 18 ∨ x.op = 20 ∨ x.op = 21 ∨ x.op = 22 ∨ x.op = 24) → 0 ≤ vgoal x ∧ vgoal x < code.length := fun ho => by
    have hv := h i x hx
    rw [vinsA_eq (by omega)] at hv
    exact vgoal_in hv ho
  unfold vsteps at hs
  split at hs
  · split at hs
    · cases hs
    · cases hs; cases hm
  split at hs
  · cases hs; cases hm
  split at hs
  · rename_i ho
    have := hg (by omega)
    cases hs
    simp only [List.mem_cons, List.not_mem_nil, or_false, Prod.mk.injEq] at hm
    omega
  split at hs
  · rename_i ho
    have := hg (by omega)
    cases hs
    simp only [List.mem_cons, List.not_mem_nil, or_false, Prod.mk.injEq] at hm
    omega
  split at hs
  · rename_i ho
    have := hg (by omega)
    cases hs
    simp only [List.mem_cons, List.not_mem_nil, or_false, Prod.mk.injEq] at hm
    omega
  split at hs
  · split at hs
    · cases hs
    · cases hs
      simp only [List.mem_cons, List.not_mem_nil, or_false, Prod.mk.injEq] at hm
      omega
  · cases hs
    simp only [List.mem_cons, List.not_mem_nil, or_false, Prod.mk.injEq] at hm
    omega

theorem walked_not {code : List In4} {ts : List Int} (h : Walked code ts) (hlab : LabOk code) {p : Nat} {t k : Int} (hr : Reach code p t) (hb : StepBad code p t k) : False := by
  obtain ⟨x, hx, ⟨-, e⟩ | ⟨s, q, u, hs, hm, hh⟩⟩ := hb
  · exact h.good p t x hr hx e
  · have hl := h.len
    rcases hh with ⟨rfl, -⟩ | ⟨hq, -, hu⟩
    · have r2 : Reach code code.length u := .step hr hx hs hm
      have := (List.getElem?_eq_some_iff.1 (h.all _ _ r2)).1
      omega
    · have hpt := h.all _ _ hr
      have hq0 := (hlab p x t s q u hx hs hm).1
      obtain ⟨j, rfl⟩ : ∃ j : Nat, q = j := ⟨q.toNat, by omega⟩
      have r2 : Reach code j u := .step hr hx hs hm
      have e2 := h.all _ _ r2
      rcases hu with h8 | ⟨u', q', e3, e4, e5, r3⟩
      · have := (h.sound _ _ e2 (by omega)).2.2
        omega
      · obtain rfl : j = q' := by omega
        have e6 := h.all _ _ r3
        rw [e2] at e6
        exact e4 (Option.some.inj e6).symm
theorem slipA_not {tab : Nat → Int} {nl : Nat} {fns : List Fn4} {i : Nat} {f : Fn4} {p : Nat} {k : Int} (h : FunSlipA tab nl fns i f p k) (hg : FunGoodA tab nl fns i f) : False := by
  obtain ⟨-, ⟨x, h1, -, h3⟩ | ⟨-, t, h1, h2⟩⟩ := h
  · rw [hg.ins p x h1] at h3; cases h3
  · obtain ⟨ts, hw⟩ := hg.walk
    exact walked_not hw (labOk_ofA (ar := fun p => arOf fns (f.code[p]?.getD ⟨0, 0, 0, 0⟩)) fun p x hp => by
      have := hg.ins p x hp
      simp only [hp, Option.getD_some]
      exact this) h1 h2

/- ONE INSTRUCTION MORE -/
theorem reach_more {code : List In4} {ts : List Int} (hw : Walked code ts) (x : In4) {p : Nat} {t : Int} (h : Reach (code ++ [x]) p t) : Reach code p t ∧ p < code.length := by
  induction h with
  | zero =>
    have := (List.getElem?_eq_some_iff.1 (hw.all 0 0 .zero)).1
    exact ⟨.zero, by have := hw.len; omega⟩
  | @step p q t u y s _ hx hs hm ih =>
    rw [List.getElem?_append_left ih.2] at hx
    have r : Reach code q u := .step ih.1 hx hs hm
    have := (List.getElem?_eq_some_iff.1 (hw.all _ _ r)).1
    exact ⟨r, by have := hw.len; omega⟩
theorem reach_less {code : List In4} {x : In4} {p : Nat} {t : Int} (h : Reach code p t) : Reach (code ++ [x]) p t := by
  induction h with
  | zero => exact .zero
  | @step p q t u y s _ hx hs hm ih =>
    have := (List.getElem?_eq_some_iff.1 hx).1
    exact .step ih (by rw [List.getElem?_append_left this]; exact hx) hs hm
theorem walked_more {code : List In4} {ts : List Int} (hw : Walked code ts) (x : In4) : Walked (code ++ [x]) (ts ++ [-1]) := by
  have hl := hw.len
  refine ⟨by simp [hl], fun p t e ht => ?_, fun p t hr => ?_, fun p t y hr hy => ?_⟩
  · by_cases hp : p < ts.length
    · rw [List.getElem?_append_left hp] at e
      exact ⟨reach_less (hw.sound p t e ht).1, (hw.sound p t e ht).2⟩
    · rw [List.getElem?_append_right (by omega)] at e
      cases hj : p - ts.length with
      | zero => rw [hj] at e; exact (ht (Option.some.inj e).symm).elim
      | succ m => rw [hj] at e; cases e
  · obtain ⟨hr, hp⟩ := reach_more hw x hr
    rw [List.getElem?_append_left (by omega)]
    exact hw.all p t hr
  · obtain ⟨hr, hp⟩ := reach_more hw x hr
    rw [List.getElem?_append_left hp] at hy
    exact hw.good p t y hr hy
/-- the tries are told in one way -/
theorem walked_one {code : List In4} {ts us : List Int} (h : Walked code ts) (k : Walked code us) : ts = us := by
  refine List.ext_getElem? fun p => ?_
  have h1 := h.len
  have h2 := k.len
  by_cases hp : p < code.length
  · obtain ⟨t, ht⟩ : ∃ t, ts[p]? = some t := ⟨ts[p], List.getElem?_eq_getElem (by omega)⟩
    obtain ⟨u, hu⟩ : ∃ u, us[p]? = some u := ⟨us[p], List.getElem?_eq_getElem (by omega)⟩
    rw [ht, hu]
    by_cases e : t = -1
    · by_cases e2 : u = -1
      · rw [e, e2]
      · rw [← ht, h.all _ _ (k.sound p u hu e2).1]
    · rw [← hu, k.all _ _ (h.sound p t ht e).1]
  · rw [List.getElem?_eq_none (by omega), List.getElem?_eq_none (by omega)]
end Go.Proofs.YtpdepmkojbpklaaDoor
