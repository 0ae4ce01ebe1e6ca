/- Rows of acts and of numbers, compared; the statements' own small functions; the document's example. -/
import Derived.Test.YtbdogiblndlimaaSuLaw
import Derived.Laws.StructEq
namespace Go.Proofs.Ytbdogiblndlimaa
open Go.RowKit
set_option linter.unusedVariables false

theorem Try.fieldsAct : (Try.prog.fieldsOf 40).toList.map (fun f => (f.name, f.type, f.offset)) = [("Kind", 3, 0), ("Child", 3, 1)] := by kernel_rfl
section
variable {w w' : World} {v v1 v2 : Value} {A : Acts} {l : List Int} {cs : List Ch}
theorem AcW.form (h : AcW w v A) : ∃ po cap, v = .slice po A.length cap ∧ A.length ≤ cap ∧ cap ≤ 9223372036854775807 := ownsS_form h
theorem AcW.at (h : AcW w v A) {i : Nat} {p : Int × Int} (hi : A[i]? = some p) : ∃ g cap, v = .slice (some ⟨g, 0, none⟩) A.length cap ∧ w.cell? ⟨g, i * 2, none⟩ = some (.int .i64 p.1) ∧ w.cell? ⟨g, i * 2 + 1, none⟩ = some (.int .i64 p.2) := by
  obtain ⟨g, cap, rfl, -, -, h0⟩ := acC_cell h (j := 0) hi rfl
  obtain ⟨g', cap', e, -, -, h1⟩ := acC_cell h (j := 1) hi rfl
  injection e with e
  injection e with e
  injection e with e
  subst e
  exact ⟨g, cap, rfl, h0, h1⟩
theorem AcW.same (h : AcW w v A) (hk : Kp (fun _ => False) w w') : AcW w' v A := hk.rowS h fun _ _ e => e
set_option maxHeartbeats 400000 in
theorem sameActs_any (h1 : AcW w v1 A) (h2 : AcW w v2 A) (hl : A.length ≤ 8796093022208) : Calls Try.prog 16 #[v1, v2] w fun e w' => e = .returned (.bool true) ∧ ∃ k, w' = w.drewN k := by
  have HA := Lib.hid (And.intro h1 h2)
  obtain ⟨p1, c1, rfl, hc1, hm1⟩ := h1.form
  obtain ⟨p2, c2, rfl, hc2, hm2⟩ := h2.form
  clear h1 h2
  go_enter Try.func16, Try.ntmps16
  go_wp2_with fail
  go_loopg [5] A.length (fun gk i wr => ∃ (j k : Nat), j ≤ A.length ∧ gk = A.length - j ∧ i = .int .i64 j ∧ wr = w.drewN k)
  case atStart => exact ⟨0, 0, by omega, rfl, rfl, rfl⟩
  case round =>
    obtain ⟨j, k, hj, rfl, rfl, rfl⟩ := hrel
    by_cases hlt : j < A.length
    · obtain ⟨⟨p, q⟩, hp⟩ : ∃ p, A[j]? = some p := ⟨_, List.getElem?_eq_getElem hlt⟩
      obtain ⟨ga, ca, ea, a1, a2⟩ := HA.out.1.at hp
      obtain ⟨gb, cb, eb, b1, b2⟩ := HA.out.2.at hp
      injection ea with ea _ ec
      injection eb with eb _ ed
      subst ea eb ec ed
      clear hp
      simp only at a1 a2 b1 b2
      have hli : (j : Int) < A.length := by omega
      go_wp2_with fail
      go_region
      all_goals go_wp2_with fail
      all_goals go_roundg (A.length - (j + 1))
      case measure => omega
      case rel => exact ⟨j + 1, k + 1, by omega, rfl, by go_num, rfl⟩
    · obtain rfl : j = A.length := by omega
      go_wp2_with fail
      go_ret
      exact ⟨rfl, k, rfl⟩
/-- numbers in a row, as they can be read -/
def InR (w : World) (v : Value) (l : List Int) : Prop := ∃ po cap, v = .slice po l.length cap ∧ l.length ≤ cap ∧ cap ≤ 9223372036854775807 ∧ ∀ (i : Nat) (x : Int), l[i]? = some x → ∃ g, po = some ⟨g, 0, none⟩ ∧ w.cell? ⟨g, i, none⟩ = some (.int .i64 x)
theorem InR.of (h : w.ownsS 3 1 v l.length (inC l)) : InR w v l := by
  obtain ⟨po, cap, rfl, h1, h2⟩ := ownsS_form h
  refine ⟨po, cap, rfl, h1, h2, fun i x hi => ?_⟩
  obtain ⟨g, cap', e, -, -, hc⟩ := inC_cell h (j := 0) hi rfl
  injection e with e
  exact ⟨g, e, by rw [Nat.mul_one] at hc; exact hc⟩
set_option maxHeartbeats 400000 in
theorem sameIn_any (h1 : InR w v1 l) (h2 : InR w v2 l) : Calls Try.prog 21 #[v1, v2] w fun e w' => e = .returned (.bool true) ∧ ∃ k, w' = w.drewN k := by
  obtain ⟨p1, c1, rfl, hc1, hm1, r1⟩ := h1
  obtain ⟨p2, c2, rfl, hc2, hm2, r2⟩ := h2
  go_enter Try.func21, Try.ntmps21
  go_wp2_with fail
  go_loopg [5] l.length (fun gk i wr => ∃ (j k : Nat), j ≤ l.length ∧ gk = l.length - j ∧ i = .int .i64 j ∧ wr = w.drewN k)
  case atStart => exact ⟨0, 0, by omega, rfl, rfl, rfl⟩
  case round =>
    obtain ⟨j, k, hj, rfl, rfl, rfl⟩ := hrel
    by_cases hlt : j < l.length
    · obtain ⟨p, hp⟩ : ∃ p, l[j]? = some p := ⟨_, List.getElem?_eq_getElem hlt⟩
      obtain ⟨ga, rfl, a1⟩ := r1 j p hp
      obtain ⟨gb, rfl, b1⟩ := r2 j p hp
      clear hp r1 r2
      have hli : (j : Int) < l.length := by omega
      go_wp2_with fail
      go_region
      all_goals go_wp2_with fail
      all_goals go_roundg (l.length - (j + 1))
      case measure => omega
      case rel => exact ⟨j + 1, k + 1, by omega, rfl, by go_num, rfl⟩
    · obtain rfl : j = l.length := by omega
      clear r1 r2
      go_wp2_with fail
      go_ret
      exact ⟨rfl, k, rfl⟩
/-- children of a literal's row -/
def ChOk (c : Ch) : Prop := c.1.size ≤ maxLen ∧ (-9223372036854775808 ≤ c.2.1 ∧ c.2.1 ≤ 9223372036854775807) ∧ (-9223372036854775808 ≤ c.2.2 ∧ c.2.2 ≤ 9223372036854775807)
theorem ChR.of (h : w.ownsS 29 3 v cs.length (chC cs)) (ho : ∀ c ∈ cs, ChOk c) : ChR w v cs := by
  obtain ⟨po, cap, rfl, h1, h2⟩ := ownsS_form h
  refine ⟨po, cap, rfl, h1, h2, fun i c hi => ?_⟩
  obtain ⟨g, cap', e, -, -, c0⟩ := chC_cell h (j := 0) hi rfl
  obtain ⟨g1, cap1, e1, -, -, c1⟩ := chC_cell h (j := 1) hi rfl
  obtain ⟨g2, cap2, e2, -, -, c2⟩ := chC_cell h (j := 2) hi rfl
  injection e with e
  injection e1 with e1
  injection e2 with e2
  rw [e] at e1 e2
  injection e1 with e1
  injection e1 with e1
  injection e2 with e2
  injection e2 with e2
  subst e1 e2
  have := ho c (List.mem_of_getElem? hi)
  exact ⟨g, 0, e, by rw [Nat.zero_add]; exact c0, by rw [Nat.zero_add]; exact c1, by rw [Nat.zero_add]; exact c2, this⟩
theorem ch_lit {n : Nat} (w : World) (hn : cs.length = n) (hm : n ≤ 32) : (w.alloc (.cells (chC cs).toArray 29)).ownsS 29 3 (.slice (some ⟨w.heap.size, 0, none⟩) n n) cs.length (chC cs) := by
  subst hn
  exact ⟨chC_len cs, .inr ⟨w.heap.size, cs.length, _, rfl, heap_alloc_new w _, Nat.le_refl _, by simp [chC_len], by unfold maxLen; omega, List.take_of_length_le (by simp [chC_len])⟩⟩
def opF : ByteArray := ⟨#[102]⟩
set_option maxHeartbeats 400000 in
theorem child_any (r : Int) (w : World) : Calls Try.prog 12 #[.int .i64 r] w fun e w' => e = .returned (.agg #[.string opF, .int .i64 r, .int .i64 5]) ∧ w' = w.alloc (.cells #[.string opF, .int .i64 r, .int .i64 5] 29) := by
  have hr := heap_alloc_new w (.cells #[.string opF, .int .i64 r, .int .i64 5] 29)
  have i0 : _ = some (Value.string opF) := cell_of_row _ w.heap.size 0 _ _ _ hr
  have i1 : _ = some (Value.int .i64 r) := cell_of_row _ w.heap.size 1 _ _ _ hr
  have i2 : _ = some (Value.int .i64 5) := cell_of_row _ w.heap.size 2 _ _ _ hr
  have HI := Lib.hid (And.intro i0 (And.intro i1 i2))
  clear hr i0 i1 i2
  unfold opF at HI ⊢
  go_enter Try.func12, Try.ntmps12
  go_wp2_with fail
  refine bodyPost_ret (v := .agg #[.string ⟨#[102]⟩, .int .i64 r, .int .i64 5]) (by simp [results, Try.results12, go_sem, HI.out.1, HI.out.2.1, HI.out.2.2]) rfl ?_
  exact ⟨rfl, rfl⟩
/-- two structs of one kind and child are equal -/
theorem Try.partA0 (w : World) (a b : Int) : (part 3 #[.int .i64 a, .int .i64 b] 0).run Try.prog w = .ok (.int .i64 a) w := by kernel_rfl
theorem Try.partA1 (w : World) (a b : Int) : (part 3 #[.int .i64 a, .int .i64 b] 1).run Try.prog w = .ok (.int .i64 b) w := by kernel_rfl
theorem Try.eqAct (w : World) (a b c d : Int) : (binOp .eql 40 (.agg #[.int .i64 a, .int .i64 b]) (.agg #[.int .i64 c, .int .i64 d])).run Try.prog w = .ok (.bool (a == c && b == d)) w := by
  have hl : Try.prog.underlying 40 = some (.struct (Try.prog.fieldsOf 40)) := by kernel_rfl
  have hs : Try.prog.stoodInHeld 40 = false := by kernel_rfl
  rw [run_eql_struct, run_equalIn_struct w 9999 _ _ _ hl hs]
  have hf := Try.fieldsAct
  generalize (Try.prog.fieldsOf 40).toList = fs at hf
  obtain ⟨f, g, rfl⟩ : ∃ f g, fs = [f, g] := by
    have := congrArg List.length hf
    simp at this
    obtain ⟨f, fs, rfl⟩ := List.exists_cons_of_length_eq_add_one this
    simp at this
    obtain ⟨g, fs, rfl⟩ := List.exists_cons_of_length_eq_add_one this
    simp at this
    subst this
    exact ⟨f, g, rfl⟩
  simp at hf
  obtain ⟨⟨h1, h2, h3⟩, h4, h5, h6⟩ := hf
  have n1 : ("Kind" : String) ≠ "_" := by decide
  have n2 : ("Child" : String) ≠ "_" := by decide
  simp only [Op.eqFields, h1, h2, h3, h4, h5, h6]
  rw [if_pos n1, if_pos n2]
  simp only [Sem.run_bind, Try.partA0, Result.andThen_ok, run_equalIn_int (k' := .i64) _ _ _ _ _ _ Try.underlying3]
  cases h7 : (a == c) <;> simp [Result.andThen, Sem.run_bind, Try.partA1, run_equalIn_int (k' := .i64) _ _ _ _ _ _ Try.underlying3]
  by_cases h8 : b = d
  · simp [h8]
  · simp [h8]
def cells6 (a b : Ch) : Array Value := #[.string a.1, .int .i64 a.2.1, .int .i64 a.2.2, .string b.1, .int .i64 b.2.1, .int .i64 b.2.2]
theorem ch_two (w : World) (a b : Ch) (ha : ChOk a) (hb : ChOk b) : ChR (w.alloc (.cells #[.string a.1, .int .i64 a.2.1, .int .i64 a.2.2, .string b.1, .int .i64 b.2.1, .int .i64 b.2.2] 29)) (.slice (some ⟨w.heap.size, 0, none⟩) 2 2) [a, b] :=
  ChR.of (ch_lit (cs := [a, b]) w rfl (by omega)) (by intro c hc; simp at hc; rcases hc with rfl | rfl <;> assumption)
def noC : Nat → Prop := fun _ => False
set_option maxRecDepth 100000 in
set_option maxHeartbeats 2000000 in
/-- the document's example -/
theorem suAwake_any (w : World) : Calls Try.prog 17 #[] w fun e w' => e = .returned (.bool true) ∧ Kp (fun _ => False) w w' := by
  have hf : ChOk (opF, 0, 5) := by unfold ChOk maxLen; decide
  obtain ⟨wa, hwa⟩ : ∃ wa, (w.alloc (.cells #[.string opF, .int .i64 0, .int .i64 5] 29)).alloc (.cells #[.string opF, .int .i64 0, .int .i64 5] 29) = wa := ⟨_, rfl⟩
  have hka : Kp (fun _ => False) w wa := by rw [← hwa]; exact ((Kp.refl _ w).alloc _).alloc _
  have hrow := ch_two wa (opF, 0, 5) (opF, 0, 5) hf hf
  have hkb : Kp (fun _ => False) w (wa.alloc (.cells #[.string opF, .int .i64 0, .int .i64 5, .string opF, .int .i64 0, .int .i64 5] 29)) := hka.alloc _
  have hri : rightL ⟨2, 1, 10⟩ [(opF, 0, 5), (opF, 0, 5)] = [] := by decide
  have HN := Lib.hid (ss_new (w0 := w) (C := noC) (s := ⟨2, 1, 10⟩) hrow (by unfold I64i; decide) (by unfold I64i; decide) hri hkb (fun q e => e.elim))
  have hok := newS_ok hri 0
  unfold specV at HN
  have HO := Lib.hid hok
  clear hrow hkb hri hok hka
  go_enter Try.func17, Try.ntmps17
  go_wp2_with fail
  refine (child_any 0 _).mono ?_
  rintro e w1 ⟨rfl, rfl⟩
  go_wp2_with fail
  refine (child_any 0 _).mono ?_
  rintro e w2 ⟨rfl, h2⟩
  rw [hwa] at h2
  subst h2
  unfold opF
  unfold opF at HN
  go_wp2_with fail
  refine HN.out.mono ?_
  rintro e w3 ⟨b, rfl, hS, -⟩
  obtain ⟨S0, hS0⟩ : ∃ S0, newS ⟨2, 1, 10⟩ [(⟨#[102]⟩, 0, 5), (⟨#[102]⟩, 0, 5)] = S0 := ⟨_, rfl⟩
  have HO0 : Hid (SuOk S0 0) := Lib.hid (by rw [← hS0]; exact HO.out)
  rw [hS0] at hS
  have HB := Lib.hid (ss_begin hS (by rw [← hS0]; decide))
  have HS0 := Lib.hid hS0
  clear hS HN hwa hS0 HO hf
  go_wp2_with fail
  refine HB.out.mono ?_
  rintro e w4 ⟨va, rfl, ha, hna, hS1, -⟩
  have eA : beginA S0 = [(1, 0), (1, 1)] := by rw [← HS0.out]; rfl
  rw [eA] at ha
  obtain ⟨pa, ca, rfl, -, -⟩ := ha.form
  have hla : ([(1, 0), (1, 1)] : Acts).length = 2 := rfl
  rw [hla] at hS1
  have HO1 := Lib.hid (HO0.out.begin)
  have HD := Lib.hid (ss_down hS1 (HO1.out.mono (Nat.zero_le 5)) (now := 5) (by omega) (c := 0) (by rw [← HS0.out]; rfl) false)
  rw [hla]
  clear hS1 HB eA ha hna hla
  go_wp2_with fail
  refine HD.out.mono ?_
  rintro e w5 ⟨vb, rfl, hb, hnb, hS2, -⟩
  have eB : downA (beginS S0) 0 false 5 = [(2, 1)] := by rw [← HS0.out]; rfl
  rw [eB] at hb
  have HO2 := Lib.hid ((HO1.out.mono (Nat.zero_le 5)).down (c := 0) (by rw [← HS0.out]; decide) false)
  have HE := Lib.hid (ss_down hS2 (HO2.out.mono (show 5 ≤ 6 by omega)) (now := 6) (by omega) (c := 1) (by rw [← HS0.out]; rfl) false)
  have Hb := Lib.hid hb
  have Hnb := Lib.hid hnb
  clear hS2 HD eB hb hnb
  obtain ⟨pb, cb, rfl, -, -⟩ := Hb.out.form
  go_wp2_with fail
  refine HE.out.mono ?_
  rintro e w6 ⟨vc, rfl, hc, hnc, hS3, hk6⟩
  have eC : downA (downS (beginS S0) 0 false 5) 1 false 6 = [(1, 0), (1, 1)] := by rw [← HS0.out]; rfl
  rw [eC] at hc
  have hb6 : AcW w6 _ [(2, 1)] := hk6.rowS Hb.out fun g hg e => e (.inr hg)
  obtain ⟨gc, cc, rfl, k0, k1⟩ := hc.at (i := 0) rfl
  have HK := Lib.hid hS3.kp0
  have Hb6 := Lib.hid hb6
  clear HE hk6 hS3 hnc hc hb6 eC Hb
  have hlb : ([(2, 1)] : Acts).length = 1 := rfl
  have hlc : ([(1, 0), (1, 1)] : Acts).length = 2 := rfl
  rw [hlb] at Hb6
  rw [hlc]
  clear hlb hlc
  have HSA := Lib.hid (sameActs_any (Hb6.out.same ((Kp.refl _ w6).alloc (.cells #[.int .i64 2, .int .i64 1] 40))) (act_one w6 2 1) (by decide))
  have HK7 : Hid (∀ k, Kp (fun _ => False) w ((w6.alloc (.cells #[.int .i64 2, .int .i64 1] 40)).drewN k)) := Lib.hid fun k => su_kpN (HK.out.trans' ((Kp.refl _ w6).alloc _)) k
  have hlt6 : gc < w6.heap.size := World.block_lt_of_cell? _ _ k0
  have k0' : (w6.alloc (.cells #[.int .i64 2, .int .i64 1] 40)).cell? ⟨gc, 0, none⟩ = some (.int .i64 1) := by rw [World.cell?_alloc_past _ _ _ hlt6]; exact k0
  have k1' : (w6.alloc (.cells #[.int .i64 2, .int .i64 1] 40)).cell? ⟨gc, 1, none⟩ = some (.int .i64 0) := by rw [World.cell?_alloc_past _ _ _ hlt6]; exact k1
  have HKK := Lib.hid (And.intro k0' k1')
  have heq := Try.eqAct
  clear k0 k1 k0' k1' Hb6
  go_wp2_with fail
  refine HSA.out.mono ?_
  rintro e w7 ⟨rfl, k, hk7⟩
  have k0 : w7.cell? ⟨gc, 0, none⟩ = some (.int .i64 1) := by rw [hk7]; exact HKK.out.1
  have k1 : w7.cell? ⟨gc, 1, none⟩ = some (.int .i64 0) := by rw [hk7]; exact HKK.out.2
  have HF : Hid (Kp (fun _ => False) w w7) := Lib.hid (by rw [hk7]; exact HK7.out k)
  clear hk7 HKK HK7 HSA
  go_wp2_with fail
  go_ret
  exact ⟨rfl, HF.out⟩
end
end Go.Proofs.Ytbdogiblndlimaa
