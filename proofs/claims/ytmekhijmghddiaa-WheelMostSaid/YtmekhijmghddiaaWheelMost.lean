/- WheelMost: just so many timers are there at once as may be: one more is refused, and has room when one expired or was cancelled; at every int and bool, no condition. -/
import Derived.Test.YtmekhijmghddiaaRows
import Derived.Test.YtmekhijmghddiaaWhUse
import Derived.WalkKit
import Derived.ProofKit
import Derived.OpenShut
import Derived.ShutString
import Derived.ChangeOld
import Derived.Below
import Derived.Deep.Strs
namespace Go.Proofs.Ytmekhijmghddiaa.wheelMost
open Go.ChangeShapes Go.WideShapes Go.ChangeAt Go.RowKit
open Go.ChangeMaps (open_string shut_string)
set_option linter.unusedVariables false

theorem own : ownKnob Try.prog.godebug = none := by kernel_rfl
theorem laidOut : laidOutB Try.prog = true := by kernel_rfl

/-- timers one behind the other -/
def MostTs (ts : List Tm) : Prop := ∀ (k : Nat) (t : Tm), ts[k]? = some t → t.id = k ∧ t.due = 10 + k ∧ t.wht = 100 + k
theorem MostTs.snoc {ts : List Tm} (h : MostTs ts) (t : Tm) (h1 : t.id = ts.length) (h2 : t.due = 10 + ts.length) (h3 : t.wht = 100 + (ts.length : Int)) : MostTs (ts ++ [t]) := by
  intro k x hk
  by_cases e : k < ts.length
  · rw [List.getElem?_append_left e] at hk
    exact h k x hk
  · rw [List.getElem?_append_right (by omega)] at hk
    rcases hkk : k - ts.length with _ | j
    · rw [hkk] at hk
      simp at hk
      subst hk
      have : k = ts.length := by
        have : ¬ k < ts.length := e
        omega
      subst this
      exact ⟨h1, h2, h3⟩
    · rw [hkk] at hk
      simp at hk
theorem MostTs.of {ts : List Tm} (h : MostTs ts) {k : Nat} (hk : k < ts.length) : ∃ t, tmOf ts (k : Nat) = some t ∧ t.id = k ∧ t.due = 10 + k ∧ t ∈ ts := by
  have h1 := h k ts[k] (List.getElem?_eq_getElem hk)
  cases hf : tmOf ts (k : Nat) with
  | none =>
    have := tmOf_none hf ts[k] (List.getElem_mem hk)
    omega
  | some t =>
    obtain ⟨hm, he⟩ := tmOf_mem hf
    obtain ⟨j, hj, e⟩ := List.mem_iff_getElem.1 hm
    have h2 := h j t (by rw [List.getElem?_eq_getElem hj, e])
    have hjk : j = k := by omega
    subst hjk
    exact ⟨t, rfl, h2.1, h2.2.1, hm⟩
theorem MostTs.without_len {ts : List Tm} (h : MostTs ts) {k : Nat} (hk : k < ts.length) : (without ts (k : Nat)).length + 1 = ts.length := by
  unfold without
  have key : ∀ (l : List Tm) (c : Nat), (∀ (j : Nat) (t : Tm), l[j]? = some t → t.id = c + j) → (l.filter fun t => !decide ((t.id : Int) = (k : Int))).length + (if c ≤ k ∧ k < c + l.length then 1 else 0) = l.length := by
    intro l
    induction l with
    | nil => intro c _; simp
    | cons a l ih =>
      intro c hc
      have ha := hc 0 a rfl
      have h3 := ih (c + 1) (fun j t ht => by have := hc (j + 1) t (by simpa using ht); omega)
      by_cases e : a.id = k
      · rw [List.filter_cons_of_neg (by simp [e])]
        rw [if_neg (by omega)] at h3
        rw [if_pos (by simp; omega)]
        simp at h3 ⊢
        exact h3
      · rw [List.filter_cons_of_pos (by simp; omega)]
        simp only [List.length_cons]
        by_cases h4 : c + 1 ≤ k ∧ k < c + 1 + l.length
        · rw [if_pos h4] at h3
          rw [if_pos (by omega)]
          omega
        · rw [if_neg h4] at h3
          rw [if_neg (by omega)]
          omega
  have := key ts 0 (fun j t ht => by have := (h j t ht).1; omega)
  rw [if_pos (by omega)] at this
  exact this
theorem MostTs.due_split {ts o ts' : List Tm} (h : MostTs ts) (hpos : 0 < ts.length) (hd : DueBy ts 10 o ts') : idsOf o = [0] ∧ ts'.length + 1 = ts.length := by
  cases ts with
  | nil => simp at hpos
  | cons a l =>
    have ha := h 0 a rfl
    have hl : ∀ t ∈ l, 10 < t.due := by
      intro t ht
      obtain ⟨j, hj, e⟩ := List.mem_iff_getElem.1 ht
      have := h (j + 1) t (by simp [hj, e])
      omega
    have ho : o = [a] := hd.is (by simp) (fun t => by
      constructor
      · intro ht
        obtain rfl : t = a := by simpa using ht
        exact ⟨by simp, by omega⟩
      · rintro ⟨ht, hle⟩
        rcases List.mem_cons.1 ht with rfl | ht
        · simp
        · have := hl t ht
          omega)
    subst ho
    refine ⟨by simp [idsOf, ha.1], ?_⟩
    rw [hd.rest, List.filter_cons_of_neg (by simp; omega), List.filter_eq_self.2 (fun t ht => by have := hl t ht; simpa using this)]
    rfl
theorem tmOf_snoc {ts : List Tm} {t : Tm} (h : ∀ x ∈ ts, x.id < t.id) : tmOf (ts ++ [t]) (t.id : Nat) = some t := by
  unfold tmOf
  rw [List.find?_append, List.find?_eq_none.2 (fun x hx => by have := h x hx; simp; omega)]
  simp
theorem WhN.ids' {w0 w : World} {b most now fresh : Nat} {ts : List Tm} (h : WhN w0 w b most now fresh ts) : ∀ t ∈ ts, t.id < fresh := by
  obtain ⟨G, h1, _, _⟩ := h
  exact h1.ids

set_option maxHeartbeats 8000000 in
set_option maxRecDepth 100000 in
theorem walk (a0 : Int) (a1 : Bool) (w : World) (w1 : (Lit.int .i64 a0).wf = true) :
    Calls Try.prog 7 #[.int .i64 a0, .bool a1] w fun e w' => e = .returned (.bool true) ∧ Below w.heap.size w w' := by
  obtain ⟨b1, b2⟩ := bounds_i64 w1
  clear w1
  obtain ⟨K, hK, hK2⟩ : ∃ K : Nat, a0 % 100 = K ∧ K < 100 := ⟨(a0 % 100).toNat, by omega, by omega⟩
  have HK := Lib.hid hK
  obtain ⟨m, hm⟩ : ∃ m, K + 1 = m := ⟨_, rfl⟩
  have hm1 : 1 ≤ m := by omega
  have hm2 : m ≤ 100 := by omega
  have hm3 : (1 : Int) + (K : Int) = (m : Int) := by omega
  have HM := Lib.hid (And.intro hm hm3)
  have HNW := Lib.hid (n_new w m hm1 (by omega))
  clear hK hm hm3
  go_enter Try.func7, Try.ntmps7
  go_wp2_with fail
  refine (place_any _ a0 100 b1 b2 (by omega) (by omega)).mono ?_
  rintro e w' ⟨rfl, rfl⟩
  rw [HK.out]
  clear b1 b2
  go_wp2_with fail
  rw [HM.out.2]
  refine HNW.out.mono ?_
  rintro e w1 ⟨b, rfl, h1⟩
  have H1 := Lib.hid h1
  clear h1 HNW
  go_wp2_with fail
  go_loopg [8, 9, 10] m (fun gk s8 s9 s10 wr => ∃ (i : Nat) (ts : List Tm), i ≤ m ∧ gk = m - i ∧ s8 = .int .i64 (i : Nat) ∧ ts.length = i ∧ MostTs ts ∧ WhN w wr b m 0 i ts)
  case atStart => exact ⟨0, [], by omega, rfl, rfl, rfl, fun k t hk => by simp at hk, H1.out⟩
  case round =>
    obtain ⟨i, ts, hi, rfl, rfl, htl, hts, hB⟩ := hrel
    clear H1
    by_cases hlt : i < m
    · have hli : (i : Int) < m := by omega
      have hib : (i : Int) ≤ 100 := by omega
      have h10 : (10 : Int) + (i : Int) = ((10 + i : Nat) : Int) := by omega
      have H10 := Lib.hid h10
      have HS := Lib.hid (n_start hB (10 + i) (100 + (i : Int)) (by omega) (by omega) (by omega) (by omega) (by omega))
      have HT := Lib.hid (And.intro hts htl)
      have hcw : IntKind.i64.wrap ((100 : Int) + (i : Int)) = 100 + (i : Int) := IntWalk.i64_in _ (by omega)
      have hcw2 : IntKind.i64.wrap (i : Int) = (i : Int) := IntWalk.i64_in _ (by omega)
      clear hB hts htl h10
      go_wp2_with fail
      rw [H10.out]
      refine HS.out.mono ?_
      rintro e w2 ⟨rfl, g, h2⟩
      rw [Nat.zero_add] at h2
      have H2 := Lib.hid h2
      clear h2 HS
      go_wp2_with fail
      go_roundg (m - (i + 1))
      case measure => omega
      case rel => exact ⟨i + 1, _, by omega, rfl, by go_num, by rw [List.length_append, HT.out.2]; rfl, HT.out.1.snoc _ HT.out.2.symm (by rw [HT.out.2]) (by rw [HT.out.2]), H2.out⟩
    · obtain rfl : m = i := by omega
      have HF := Lib.hid (n_start_full hB 1 0 (by omega) (by omega) htl)
      have HT := Lib.hid (And.intro hts htl)
      clear hB hts htl hlt hi
      go_wp2_with fail
      refine HF.out.mono ?_
      rintro e w2 ⟨⟨g, rfl⟩, h2⟩
      have HL := Lib.hid (n_len h2)
      rw [HT.out.2] at HL
      have H2 := Lib.hid h2
      clear h2 HF
      go_wp2_with fail
      refine HL.out.mono ?_
      rintro e w3 ⟨rfl, rfl⟩
      clear HL
      cases a1 with
      | true =>
        obtain ⟨q, hq⟩ : ∃ q, m / 2 = q := ⟨_, rfl⟩
        have hq1 : (m : Int) / 2 = (q : Int) := by omega
        have hq2 : (m : Int).tdiv 2 = (q : Int) := by rw [Int.tdiv_eq_ediv_of_nonneg (by omega)]; exact hq1
        have hqm : q < m := by omega
        obtain ⟨t, ht1, ht2, ht3, ht4⟩ := HT.out.1.of (k := q) (by rw [HT.out.2]; exact hqm)
        have HC := Lib.hid (n_cancel H2.out (id := (q : Int)) (wf_i64 (by omega) (by omega)) ht1)
        have hdd : t.due - 0 = 10 + q := by omega
        rw [hdd] at HC
        have hwl := HT.out.1.without_len (k := q) (by rw [HT.out.2]; exact hqm)
        rw [HT.out.2] at hwl
        have HWL := Lib.hid hwl
        have hqb : (q : Int) ≤ 100 := by omega
        have hcw : IntKind.i64.wrap (q : Int) = (q : Int) := IntWalk.i64_in _ (by omega)
        clear hq ht1 ht2 ht3 ht4 hdd hwl H2
        go_wp2_with fail
        refine HC.out.mono ?_
        rintro e w3 ⟨rfl, h3⟩
        have HS := Lib.hid (show Calls Try.prog 14 #[.pointer (some ⟨b, 0, none⟩), .int .i64 5, .int .i64 7] _ _ from n_start h3 5 7 (by omega) (by omega) (by omega) (by have := HWL.out; omega) (by omega))
        have HI := Lib.hid (WhN.ids' h3)
        have HWL2 : Hid ((without ts (q : Nat)).length + 1 = m) := HWL
        clear h3 HC HWL
        go_wp2_with fail
        refine HS.out.mono ?_
        rintro e w7 ⟨rfl, g7, h7⟩
        have HW := Lib.hid (n_what (id := (m : Int)) h7 (wf_i64 (by omega) (by omega)) (tmOf_snoc HI.out))
        have hl7 := n_len h7
        rw [List.length_append, List.length_cons, List.length_nil, Nat.zero_add, HWL2.out] at hl7
        have HL7 := Lib.hid hl7
        have H7 := Lib.hid h7
        have hcm : IntKind.i64.wrap (m : Int) = (m : Int) := IntWalk.i64_in _ (by omega)
        clear h7 hl7 HS
        go_wp2_with fail
        refine HW.out.mono ?_
        rintro e w8 ⟨rfl, rfl⟩
        go_wp2_with fail
        refine HL7.out.mono ?_
        rintro e w8 ⟨rfl, rfl⟩
        go_wp2_with fail
        refine (whAwake_any _).mono ?_
        rintro e w8 ⟨rfl, hk8⟩
        have H8 := Lib.hid (H7.out.same hk8).below
        clear hk8
        go_wp2_with fail
        go_ret
        exact ⟨rfl, H8.out⟩
      | false =>
        have HTk := Lib.hid (show Calls Try.prog 22 #[.pointer (some ⟨b, 0, none⟩), .int .i64 10] _ _ from n_tick H2.out 10 (by omega) (by omega) (by omega) (by rw [HT.out.2]; omega))
        clear H2
        go_wp2_with fail
        refine HTk.out.mono ?_
        rintro e w3 ⟨v, o, ts', rfl, hv, hd, h3⟩
        rw [show 0 + ticksOf 10 = 10 from rfl] at hd h3
        obtain ⟨ho, hlen⟩ := HT.out.1.due_split (by rw [HT.out.2]; omega) hd
        rw [ho] at hv
        rw [HT.out.2] at hlen
        have hk6 : Kp (fun _ => False) w3 (w3.alloc (.cells #[.int .i64 0] 2)) := (Kp.refl _ w3).alloc _
        have HE := Lib.hid (sameLongs_any (hv.same hk6) (lr_lit1 0 (heap_alloc_new w3 _)))
        have H5 := Lib.hid (And.intro (h3.same hk6) hlen)
        clear hv hd h3 ho hlen hk6 HTk
        go_wp2_with fail
        refine HE.out.mono ?_
        rintro e w6 ⟨rfl, m6, hm6⟩
        have h6 : WhN w w6 b m 10 m ts' := by rw [hm6]; exact H5.out.1.same (kp_drewN (Kp.refl _ _) m6)
        have HS := Lib.hid (show Calls Try.prog 14 #[.pointer (some ⟨b, 0, none⟩), .int .i64 5, .int .i64 7] _ _ from n_start h6 5 7 (by omega) (by omega) (by omega) (by have := H5.out.2; omega) (by omega))
        have HI := Lib.hid (WhN.ids' h6)
        have HWL2 : Hid (ts'.length + 1 = m) := Lib.hid H5.out.2
        clear hm6 h6 H5 HE
        go_wp2_with fail
        refine HS.out.mono ?_
        rintro e w7 ⟨rfl, g7, h7⟩
        have HW := Lib.hid (n_what (id := (m : Int)) h7 (wf_i64 (by omega) (by omega)) (tmOf_snoc HI.out))
        have hl7 := n_len h7
        rw [List.length_append, List.length_cons, List.length_nil, Nat.zero_add, HWL2.out] at hl7
        have HL7 := Lib.hid hl7
        have H7 := Lib.hid h7
        have hcm : IntKind.i64.wrap (m : Int) = (m : Int) := IntWalk.i64_in _ (by omega)
        clear h7 hl7 HS
        go_wp2_with fail
        refine HW.out.mono ?_
        rintro e w8 ⟨rfl, rfl⟩
        go_wp2_with fail
        refine HL7.out.mono ?_
        rintro e w8 ⟨rfl, rfl⟩
        go_wp2_with fail
        refine (whAwake_any _).mono ?_
        rintro e w8 ⟨rfl, hk8⟩
        have H8 := Lib.hid (H7.out.same hk8).below
        clear hk8
        go_wp2_with fail
        go_ret
        exact ⟨rfl, H8.out⟩

set_option maxRecDepth 100000 in
theorem lifted (os : Os) (started : os.Started) (H : Type) (enc : TypeId × Value → H) :
    ReturnsInHanded {} Try.checked os 7 .any (Rows.wheelMostSpec.pre6 enc Try.prog Try.f7 Rows.wheelMostRow.domain false) (Rows.wheelMostSpec.post enc Try.prog Try.f7 false true false false) := by
  refine returnsInHanded_of_change (C := Try.checked) own started (by kernel_rfl) Try.func7
    (ChangeSpec.witness6 (enc := enc) (C := Try.checked) false ⟨#[], #[.int .i64 0, .bool false], []⟩ 8 (by kernel_rfl) (by kernel_rfl) (by kernel_rfl) (by kernel_rfl)) ?_
  intro W base args ds gs before hval0 hW hcnd _
  have hval : ∀ (j : Nat) t v, Try.f7.params[j]? = some t → args[j]? = some v → Value.okWide Try.prog W .any base t v := hval0
  have hW' := hW
  obtain ⟨p, q, hA0, hV, rfl, hfz, hnd⟩ := hW
  have hA : DataW.TrodAll enc Try.prog W 0 (fun _ => true) true Try.f7.params.toList args.toList ds p := hA0
  rw [Try.params7] at hA hval
  obtain ⟨v0, vs0, d0, ds0, p0, q0, hargs, rfl, rfl, h0, r0⟩ := trodAll_cons hA
  obtain ⟨v1, vs1, d1, ds1, p1, q1, rfl, rfl, rfl, h1, r1⟩ := trodAll_cons r0
  obtain ⟨rfl, rfl, rfl⟩ := trodAll_nil r1
  obtain rfl : args = #[v0, v1] := by cases args; simp_all
  obtain ⟨rfl, rfl⟩ := trodVars_none hV
  obtain ⟨a0, rfl, rfl, rfl, w0⟩ := open_int Try.underlying3 (hval 0 3 v0 rfl rfl) h0
  obtain ⟨a1, rfl, rfl, rfl⟩ := open_bool Try.underlying4 (hval 1 4 v1 rfl rfl) h1
  clear hA0 hval0
  simp only [List.append_nil] at hW'
  refine (walk a0 a1 W w0).mono fun e W' ⟨he, bel⟩ => ?_
  subst he
  exact ⟨_, rfl, _, _, _, [], _, [], hW', trodAll_mk1 (shut_bool Try.underlying4 _), (trodAll_cons_mk (shut_int Try.underlying3 w0) (trodAll_cons_mk (shut_bool Try.underlying4 a1) trodAll_mk0)), rfl, bel.frame _, fun h => by cases h⟩

theorem over : Rows.wheelMostRow.holds Try.pinned (OpenSpec.ofChange Rows.wheelMostSpec) :=
  OpenClaim.holds_of_wide 7 Try.f7 rfl rfl rfl rfl rfl rfl rfl ⟨rfl, rfl, rfl, rfl, rfl⟩ rfl rfl rfl rfl rfl (by kernel_rfl) Try.func7 (by kernel_rfl)
    (of_decide_eq_true (by kernel_rfl)) (by unfold Func.isWrapper; first | (rw [if_pos (by decide +kernel)]; kernel_rfl) | (rw [if_neg (by decide +kernel)]; exact ⟨rfl, rfl⟩))
    (fun os started H enc _ => lifted os started H enc)

theorem proved : Rows.WheelMostSaid := over
#print axioms proved
end Go.Proofs.Ytmekhijmghddiaa.wheelMost
