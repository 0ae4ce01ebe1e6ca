/- Going through a function's instructions: all that is reached, with how many tries; or a place where that goes wrong. -/
import Derived.Test.YtpdepmkojbpklaaDoorM14
/- Going through a function's instructions: all that is reached, with how many tries; or a place where that goes wrong. -/
namespace Go.Proofs.YtpdepmkojbpklaaDoor
open Go.RowKit

/-- a place is reached with so many tries -/
inductive Reach (code : List In4) : Nat → Int → Prop
  | zero : Reach code 0 0
  | step {p q : Nat} {t u : Int} {x : In4} {s : List (Int × Int)} : Reach code p t → code[p]? = some x → vsteps x p t = some s → ((q : Int), u) ∈ s → Reach code q u
/-- labels are places of the function -/
def LabOk (code : List In4) : Prop := ∀ (i : Nat) (x : In4) (t : Int) (s : List (Int × Int)) (q u : Int), code[i]? = some x → vsteps x i t = some s → (q, u) ∈ s → 0 ≤ q ∧ q ≤ code.length
/-- what goes wrong at a place -/
def StepBad (code : List In4) (p : Nat) (t : Int) (k : Int) : Prop :=
  ∃ x, code[p]? = some x ∧ ((k = 14 ∧ vsteps x p t = none) ∨ ∃ s q u, vsteps x p t = some s ∧ (q, u) ∈ s ∧ ((q = (code.length : Int) ∧ k = 13) ∨ (q < (code.length : Int) ∧ k = 14 ∧ (8 < u ∨ ∃ (u' : Int) (q' : Nat), q = q' ∧ u' ≠ u ∧ u' ≠ -1 ∧ Reach code q' u'))))
/-- the tries of each instruction -/
structure Walked (code : List In4) (ts : List Int) : Prop where
  len : ts.length = code.length
  sound : ∀ (p : Nat) (t : Int), ts[p]? = some t → t ≠ -1 → Reach code p t ∧ 0 ≤ t ∧ t ≤ 8
  all : ∀ (p : Nat) (t : Int), Reach code p t → ts[p]? = some t
  good : ∀ (p : Nat) (t : Int) (x : In4), Reach code p t → code[p]? = some x → vsteps x p t ≠ none
/-- under way -/
structure Und (code : List In4) (ts pend : List Int) : Prop where
  zero : ts[0]? = some 0
  sound : ∀ (p : Nat) (t : Int), ts[p]? = some t → t ≠ -1 → Reach code p t ∧ 0 ≤ t ∧ t ≤ 8
  pen : ∀ y, y ∈ pend → ∃ (p : Nat) (t : Int), y = p ∧ ts[p]? = some t ∧ t ≠ -1
  clos : ∀ (p : Nat) (t : Int) (x : In4), ts[p]? = some t → t ≠ -1 → ¬ (p : Int) ∈ pend → code[p]? = some x → ∃ s, vsteps x p t = some s ∧ ∀ q u, (q, u) ∈ s → ∃ q' : Nat, q = q' ∧ ts[q']? = some u ∧ u ≠ -1
theorem Und.end' {code : List In4} {ts : List Int} (h : Und code ts []) (hl : ts.length = code.length) : Walked code ts := by
  have hall : ∀ (p : Nat) (t : Int), Reach code p t → ts[p]? = some t ∧ t ≠ -1 := by
    intro p t hr
    induction hr with
    | zero => exact ⟨h.zero, by omega⟩
    | @step p q t u x s _ hx hs hm ih =>
      obtain ⟨s', hs', hq⟩ := h.clos p t x ih.1 ih.2 (by simp) hx
      rw [hs] at hs'
      obtain rfl := Option.some.inj hs'
      obtain ⟨q', e, h1, h2⟩ := hq _ _ hm
      obtain rfl : q = q' := by omega
      exact ⟨h1, h2⟩
  refine ⟨hl, h.sound, fun p t hr => (hall p t hr).1, fun p t x hr hx e => ?_⟩
  obtain ⟨s', hs', _⟩ := h.clos p t x (hall p t hr).1 (hall p t hr).2 (by simp) hx
  rw [hs'] at e
  cases e
theorem Und.next {code : List In4} {ts pend pend1 ts' pend' : List Int} {p : Nat} {t : Int} {x : In4} {s : List (Int × Int)} (h : Und code ts pend) (hm : ∀ y, y ∈ pend ↔ y = (p : Int) ∨ y ∈ pend1) (ht : ts[p]? = some t) (htm : t ≠ -1)
    (hx : code[p]? = some x) (hs : vsteps x p t = some s) (hG : Grows ts pend1 s ts' pend') (h0 : ∀ q u, (q, u) ∈ s → 0 ≤ u) : Und code ts' pend' := by
  refine ⟨hG.old 0 0 h.zero (by omega), fun q u e1 e2 => ?_, fun y hy => ?_, fun q u z e1 e2 e3 e4 => ?_⟩
  · rcases hG.new q u e1 e2 with e | e
    · exact h.sound q u e e2
    · obtain ⟨q', e5, e6, e7⟩ := hG.got _ _ e
      exact ⟨.step (h.sound p t ht htm).1 hx hs e, h0 _ _ e, e7⟩
  · rcases hG.pen y hy with e | ⟨u, e⟩
    · obtain ⟨q, u, rfl, e1, e2⟩ := h.pen y ((hm y).2 (.inr e))
      exact ⟨q, u, rfl, hG.old q u e1 e2, e2⟩
    · obtain ⟨q', e5, e6, e7⟩ := hG.got _ _ e
      exact ⟨q', u, e5, e6, hG.nm _ _ e⟩
  · rcases hG.fresh q u e1 e2 with e | e
    · by_cases hqp : q = p
      · subst hqp
        rw [ht] at e
        obtain rfl := Option.some.inj e
        rw [hx] at e4
        obtain rfl := Option.some.inj e4
        refine ⟨s, hs, fun q u hq => ?_⟩
        obtain ⟨q', e5, e6, e7⟩ := hG.got _ _ hq
        exact ⟨q', e5, e6, hG.nm _ _ hq⟩
      · have hnp : ¬ (q : Int) ∈ pend := fun hh => by
          rcases (hm _).1 hh with e5 | e5
          · omega
          · exact e3 (hG.more _ e5)
        obtain ⟨s', hs', hq'⟩ := h.clos q u z e e2 hnp e4
        refine ⟨s', hs', fun q2 u2 hq => ?_⟩
        obtain ⟨q3, e5, e6, e7⟩ := hq' q2 u2 hq
        exact ⟨q3, e5, hG.old q3 u2 e6 e7, e7⟩
    · exact absurd e e3
theorem vsteps_pos {x : In4} {i : Nat} {t : Int} {s : List (Int × Int)} (h : vsteps x i t = some s) (ht : 0 ≤ t) : ∀ q u, (q, u) ∈ s → 0 ≤ u := by
  intro q u hm
  unfold vsteps at h
  repeat' split at h
  all_goals (cases h <;> simp at hm <;> omega)
theorem um_zero {ts : List Int} (h : ts[0]? = some 0) : um ts + 1 ≤ ts.length := by
  cases ts with
  | nil => simp at h
  | cons y l =>
    obtain rfl : y = 0 := by simpa using h
    have := um_le l
    simp [um]; omega
/-- a run of steps, each from the least place that is reached and not gone on from -/
inductive LRun (code : List In4) : List Int → List Int → Prop
  | init {ts : List Int} : ts.length = code.length → ts[0]? = some 0 → (∀ i, 1 ≤ i → i < code.length → ts[i]? = some (-1)) → LRun code ts [0]
  | step {ts pend pend1 ts' pend' : List Int} {p : Nat} {t : Int} {x : In4} {s : List (Int × Int)} : LRun code ts pend → (∀ y, y ∈ pend ↔ y = (p : Int) ∨ y ∈ pend1) → pend.length = pend1.length + 1 → (∀ y, y ∈ pend1 → (p : Int) ≤ y) → ts[p]? = some t → code[p]? = some x → vsteps x p t = some s → Grows ts pend1 s ts' pend' → LRun code ts' pend'
/-- what is wrong at the least place -/
def LeastBad (code : List In4) (p : Nat) (t k : Int) : Prop :=
  ∃ (ts pend pend1 : List Int) (x : In4), LRun code ts pend ∧ (∀ y, y ∈ pend ↔ y = (p : Int) ∨ y ∈ pend1) ∧ pend.length = pend1.length + 1 ∧ (∀ y, y ∈ pend1 → (p : Int) ≤ y) ∧ ts[p]? = some t ∧ code[p]? = some x ∧ FrBad code ts x p t k
def WalkedRun (w : World) (code : List In4) (e : Ending) (w' : World) : Prop :=
  (∃ tg tc ts, e = .returned (.tuple #[.slice (some ⟨tg, 0, none⟩) code.length tc, .nilIface]) ∧ Ir w' tg tc ts ∧ w.heap.size ≤ tg ∧ Walked code ts ∧ LRun code ts [] ∧ Kp (fun _ => False) w w') ∨
  (∃ (p : Nat) (t k : Int), e = .returned (.tuple #[.slice none 0 0, .iface 92 (.agg #[.int .i64 p, .iface 42 (.int .i64 k)])]) ∧ Reach code p t ∧ StepBad code p t k ∧ LeastBad code p t k ∧ Kp (fun _ => False) w w')
def WalkedPost (w : World) (code : List In4) (e : Ending) (w' : World) : Prop :=
  (∃ tg tc ts, e = .returned (.tuple #[.slice (some ⟨tg, 0, none⟩) code.length tc, .nilIface]) ∧ Ir w' tg tc ts ∧ w.heap.size ≤ tg ∧ Walked code ts ∧ Kp (fun _ => False) w w') ∨
  (∃ (p : Nat) (t k : Int), e = .returned (.tuple #[.slice none 0 0, .iface 92 (.agg #[.int .i64 p, .iface 42 (.int .i64 k)])]) ∧ Reach code p t ∧ StepBad code p t k ∧ Kp (fun _ => False) w w')

set_option maxRecDepth 100000 in
set_option maxHeartbeats 8000000 in
theorem walked_run {F : Nat → Prop} {w : World} {code : List In4} {po : Option Addr} {cc : Nat} (hco : CodeAt F w code (.slice po code.length cc)) (hF : ∀ q, F q → q < w.heap.size) (h1 : 1 ≤ code.length) (h2 : code.length ≤ 800000) (hlab : LabOk code) :
    Calls Tryd.prog 26 #[.slice po code.length cc] w (WalkedRun w code) := by
  obtain ⟨i0, hi, hz0, hz1, hz2⟩ := info_parts Tryd.infoIntV
  obtain ⟨n, hn⟩ : ∃ n, code.length = n := ⟨_, rfl⟩
  rw [hn] at hco h1 h2 ⊢
  have hmk : ∀ u : World, (Instr.makeSlice 45 (.int .i64 (n : Int)) (.int .i64 (n : Int))).run Tryd.prog u = .ok (.slice (some ⟨u.heap.size, 0, none⟩) n n) (u.alloc (.cells (madeCells #[.int .i64 0] n) 3)) := fun u => by
    have h := run_make (P := Tryd.prog) u 45 3 i0 (.int .i64 0) Tryd.underlying45 hi hz0 .i64 .i64 (n : Int) (n : Int) (by omega) (Int.le_refl _) (by rw [hz2]; omega) (by omega)
    rw [hz1] at h
    simpa [Value.cells] using h
  obtain ⟨n1, hn1⟩ : ∃ n1, n = n1 + 1 := ⟨n - 1, by omega⟩
  obtain ⟨w3, hw3⟩ : ∃ w3, ((w.alloc (.cells (madeCells #[.int .i64 0] n) 3)).alloc (.cells #[.int .i64 0] 3)).alloc (.cells #[.slice po n cc, .slice (some ⟨w.heap.size, 0, none⟩) n n, .slice (some ⟨w.heap.size + 1, 0, none⟩) 1 1] 86) = w3 := ⟨_, rfl⟩
  have hk3 : Kp (fun _ => False) w w3 := by rw [← hw3]; exact (((Kp.refl _ w).alloc _).alloc _).alloc _
  have hz3 : w3.heap.size = w.heap.size + 3 := by rw [← hw3]; simp
  have b0 : w3.heap[w.heap.size]? = some (.cells (madeCells #[.int .i64 0] n) 3 (0, 0)) := by
    rw [← hw3, Below.heap_alloc _ _ _ (by simp; omega), Below.heap_alloc _ _ _ (by simp)]; exact heap_alloc_new w _
  have b1 : w3.heap[w.heap.size + 1]? = some (.cells #[.int .i64 0] 3 (0, 0)) := by
    rw [← hw3, Below.heap_alloc _ _ _ (by simp)]
    have := heap_alloc_new (w.alloc (.cells (madeCells #[.int .i64 0] n) 3)) (.cells #[.int .i64 0] 3)
    simpa using this
  have b2 : w3.heap[w.heap.size + 1 + 1]? = some (.cells #[.slice po n cc, .slice (some ⟨w.heap.size, 0, none⟩) n n, .slice (some ⟨w.heap.size + 1, 0, none⟩) 1 1] 86 (0, 0)) := by
    rw [← hw3]
    have := heap_alloc_new ((w.alloc (.cells (madeCells #[.int .i64 0] n) 3)).alloc (.cells #[.int .i64 0] 3)) (.cells #[.slice po n cc, .slice (some ⟨w.heap.size, 0, none⟩) n n, .slice (some ⟨w.heap.size + 1, 0, none⟩) 1 1] 86)
    simpa using this
  have hI0 : Ir w3 w.heap.size n (List.replicate n 0) := ⟨_, b0, by simp [size_madeCells], by simp, by unfold maxLen; omega, by rw [toList_madeCells_one]; simp⟩
  have hI1 : Ir w3 (w.heap.size + 1) 1 [0] := ⟨_, b1, rfl, by simp, by unfold maxLen; omega, by simp⟩
  have H := Lib.hid (And.intro hco (And.intro hF (And.intro hn (And.intro h1 (And.intro h2 hlab)))))
  have H3 := Lib.hid (And.intro hk3 (And.intro hz3 (And.intro b2 (And.intro hI0 hI1))))
  have c1 : w3.cell? ⟨w.heap.size + 1 + 1, 1, none⟩ = some (.slice (some ⟨w.heap.size, 0, none⟩) n n) := by rw [cell_of_row w3 _ 1 _ _ _ b2]; rfl
  have hn2 : (n : Int) ≤ 800000 := by omega
  have hn1' : (1 : Int) ≤ n := by omega
  have HW := Lib.hid (And.intro hw3 hn1)
  clear hco hF hn h1 hlab hi hz0 hz1 hz2 hk3 hz3 b0 b1 b2 hI0 hI1 hw3 hn1
  go_enter Tryd.func26, Tryd.ntmps26
  go_upto_region 2 with fail
  rw [HW.out.1]
  go_cut [17, 18] (fun s17 s18 wx => s17 = .int .i64 n1 ∧ s18 = .int .i64 0 ∧ wx = w3)
  case first =>
    go_wp2_with fail
    all_goals
      try subst_vars
      go_meet
      refine ⟨?_, rfl, rfl⟩
      have := HW.out.2
      first
        | (rw [show ((n - 1 : Nat) : Int) = n1 from by omega])
        | (simp; omega)
        | (congr 1; omega)
  case rest =>
    obtain ⟨rfl, rfl, rfl⟩ := hcut
    have hn1i : (n1 : Int) ≤ 800000 := by have := HW.out.2; omega
    clear hmk hn2 hn1' h2
    go_wp2_with fail
    go_loopg [18, 5] n1 (fun gk jj v5 wr => ∃ (j : Nat) (ts : List Int), j ≤ n1 ∧ gk = n1 - j ∧ jj = .int .i64 j ∧ ts.length = n ∧ ts[0]? = some 0 ∧ (∀ i, 1 ≤ i → i ≤ j → ts[i]? = some (-1)) ∧ Ir wr w.heap.size n ts ∧ Kp (fun q => q = w.heap.size) wc wr)
    case atStart => exact ⟨0, List.replicate n 0, by omega, rfl, rfl, by simp, by rw [List.getElem?_replicate]; rw [if_pos (by have := HW.out.2; omega)], fun i _ _ => by omega, H3.out.2.2.2.1, Kp.refl _ _⟩
    case round =>
      obtain ⟨j, ts, hj, hgk, rfl, hl, h00, hmm, hI, hk⟩ := hrel
      have hz3 := H3.out.2.1
      have b2 := (hk.block _ (Array.getElem?_eq_some_iff.1 H3.out.2.2.1).1 (by omega)).trans H3.out.2.2.1
      obtain ⟨d0, d1, d2, df⟩ : wr.cell? ⟨w.heap.size + 1 + 1, 0, none⟩ = some (.slice po n cc) ∧ wr.cell? ⟨w.heap.size + 1 + 1, 1, none⟩ = some (.slice (some ⟨w.heap.size, 0, none⟩) n n) ∧ wr.cell? ⟨w.heap.size + 1 + 1, 2, none⟩ = some (.slice (some ⟨w.heap.size + 1, 0, none⟩) 1 1) ∧ True :=
        ⟨by rw [cell_of_row wr _ 0 _ _ _ b2]; rfl, by rw [cell_of_row wr _ 1 _ _ _ b2]; rfl, by rw [cell_of_row wr _ 2 _ _ _ b2]; rfl, trivial⟩
      by_cases hlt : j < n1
      · obtain ⟨u, hu⟩ : ∃ u, ts[1 + j]? = some u := ⟨_, List.getElem?_eq_getElem (by have := HW.out.2; omega)⟩
        obtain ⟨cu, fu⟩ := hI.cell hu
        have hjn : (1 : Int) + j < n := by have := HW.out.2; omega
        have hji : (j : Int) ≤ 800000 := by omega
        have e1 : ((1 : Int) + j).toNat = 1 + j := by omega
        have HJ := Lib.hid (And.intro hI (And.intro hk (And.intro hl (And.intro h00 (And.intro hmm hu)))))
        clear hI hk hl h00 hmm hu b2 hz3
        go_wp2_with fail
        go_roundg (n1 - (j + 1))
        case measure => omega
        case rel =>
          have hlt' := (List.getElem?_eq_some_iff.1 HJ.out.2.2.2.2.2).1
          exact ⟨j + 1, ts.set (1 + j) (-1), by omega, rfl, by simp, by rw [List.length_set]; exact HJ.out.2.2.1, by rw [List.getElem?_set_ne (by omega)]; exact HJ.out.2.2.2.1, fun i h1 h2 => by
            by_cases e : 1 + j = i
            · subst e; exact List.getElem?_set_self hlt'
            · rw [List.getElem?_set_ne e]; exact HJ.out.2.2.2.2.1 i h1 (by omega), HJ.out.1.set _ _, HJ.out.2.1.trans' ((Kp.refl (fun q => q = w.heap.size) wr).setCell _ _ (.inl rfl))⟩
      · obtain rfl : j = n1 := by omega
        have hN := HW.out.2
        have hWk : WkAt w.heap.size F wr (w.heap.size + 1 + 1) w.heap.size n (w.heap.size + 1) 1 po cc code ts [0] := by
          have hco := H.out.1
          have hcl := H.out.2.2.1
          refine ⟨⟨by rw [hcl, hl]; exact b2, by omega, H3.out.2.2.2.2.kp hk (by omega)⟩, hI, by omega, by omega, by omega, Nat.le_refl _, by omega, ?_, H.out.2.1, by omega, ?_, fun k k0 kn => by simp at kn; omega⟩
          · rw [hcl]
            exact (hco.kp' H3.out.1 fun _ _ e => e).kp' hk fun q e e2 => by have := H.out.2.1 q e; omega
          · have := um_zero h00
            simp only [List.length_singleton]; omega
        have hUn : Und code ts [0] := by
          have hval : ∀ (p : Nat) (t : Int), ts[p]? = some t → t ≠ -1 → p = 0 ∧ t = 0 := fun p t e e2 => by
            by_cases hp : p = 0
            · subst hp
              rw [h00] at e
              exact ⟨rfl, (Option.some.inj e).symm⟩
            · have hpl := (List.getElem?_eq_some_iff.1 e).1
              rw [hmm p (by omega) (by omega)] at e
              exact absurd (Option.some.inj e).symm e2
          refine ⟨h00, fun p t e e2 => ?_, fun y hy => ?_, fun p t x e e2 e3 _ => ?_⟩
          · obtain ⟨rfl, rfl⟩ := hval p t e e2
            exact ⟨.zero, by omega, by omega⟩
          · obtain rfl : y = 0 := by simpa using hy
            exact ⟨0, 0, rfl, h00, by omega⟩
          · obtain ⟨rfl, rfl⟩ := hval p t e e2
            exact absurd (by simp) e3
        have hLR : LRun code ts [0] := .init (by rw [hl]; exact H.out.2.2.1.symm) h00 (fun i h1 h2 => hmm i h1 (by have := H.out.2.2.1; omega))
        have hk0 : Kp (fun _ => False) w wr := kp_fresh H3.out.1 (hk.mono fun q _ e => .inr (by omega))
        have HB := Lib.hid (And.intro hWk (And.intro hUn (And.intro hk0 hLR)))
        clear hWk hUn hk0 hLR hI hk h00 hmm b2 d0 d1 d2 df hz3 hN
        go_wp2_with fail
        go_loopg [6, 7] (2 * um ts + 1) (fun gk a6 a7 wr => ∃ (ts pend : List Int) (g cap : Nat), gk = 2 * um ts + pend.length ∧ WkAt w.heap.size F wr (w.heap.size + 1 + 1) w.heap.size n g cap po cc code ts pend ∧ Und code ts pend ∧ Kp (fun _ => False) w wr ∧ LRun code ts pend)
        case atStart => exact ⟨ts, [0], _, _, by simp, HB.out.1, HB.out.2.1, HB.out.2.2.1, HB.out.2.2.2⟩
        case round =>
          obtain ⟨ts2, pend, g, cap, hgk, hWk, hUn, hk0, hLR⟩ := hrel
          have HLR := Lib.hid hLR
          clear hLR
          obtain ⟨f0, f1, f2, ff⟩ := hWk.facts
          have HB2 := Lib.hid (And.intro hWk (And.intro hUn hk0))
          by_cases hp0 : pend = []
          · subst hp0
            have hcl : ts2.length = n := by rw [hWk.len]; exact H.out.2.2.1
            rw [hcl] at f1
            clear hWk hUn hk0
            go_wp2_with fail
            refine (plen_any _ _ _ _).mono ?_
            rintro e w9 ⟨rfl, rfl⟩
            go_wp2_with fail
            go_ret2
            refine .inl ⟨w.heap.size, n, ts2, by simp [H.out.2.2.1], HB2.out.1.tr, Nat.le_refl _, HB2.out.2.1.end' HB2.out.1.len, HLR.out, HB2.out.2.2⟩
          · have hpl : 0 < pend.length := List.length_pos_iff.2 hp0
            have hpi : (0 : Int) < pend.length := by omega
            have hfew : pend.length ≤ 800000 := by have := HB2.out.1.few; have := H.out.2.2.2.2.1; have := H.out.2.2.1; omega
            clear hWk hUn hk0
            go_wp2_with fail
            refine (plen_any _ _ _ _).mono ?_
            rintro e w9 ⟨rfl, rfl⟩
            go_wp2_with fail
            refine Calls.mono (hpop_hp HB2.out.1.pl hp0 (by omega)) ?_
            rintro e w4 ⟨y, pend1, rfl, hp4, hln, hmem, hhp, hk4⟩
            obtain ⟨hhq, hleast⟩ := hhp HB2.out.1.hp
            obtain ⟨p, t, rfl, htp, htm⟩ := HB2.out.2.1.pen y ((hmem y).2 (.inl rfl))
            have h0 := HB2.out.1
            have hta : ∀ w : World, (Instr.typeAssert (.iface 3 (.int .i64 (p : Int))) 20 3 false).run Tryd.prog w = .ok (.int .i64 (p : Int)) w := fun w => by kernel_rfl
            have hW4 : WkAt w.heap.size F w4 (w.heap.size + 1 + 1) w.heap.size n g cap po cc code ts2 pend1 :=
              ⟨hp4, h0.tr.kp hk4 (fun e => by rcases e with e | e; exact h0.tW e; exact h0.tG e), h0.tW, h0.tG, h0.bW, h0.bt, h0.bg, h0.co.kp' hk4 (fun q e e2 => by have := h0.lo q e; have := h0.bg; omega), h0.lo, h0.len, by have := h0.few; omega, hhq⟩
            have hsz := HB2.out.2.2.size
            have hkB4 : Kp (fun q => w.heap.size ≤ q) wr w4 := hk4.mono fun q _ e => by have := h0.bg; omega
            obtain ⟨hrp, ht0, ht8⟩ := HB2.out.2.1.sound p t htp htm
            have hpc := (List.getElem?_eq_some_iff.1 htp).1
            obtain ⟨x, hx⟩ : ∃ x, code[p]? = some x := ⟨_, List.getElem?_eq_getElem (by rw [← h0.len]; exact hpc)⟩
            have hz4 := hk4.size
            have HLE := Lib.hid hleast
            clear hleast hhp hhq
            have H4 := Lib.hid (And.intro hW4 (And.intro hkB4 (And.intro hmem (And.intro hln (And.intro htp (And.intro htm (And.intro hrp (And.intro ht0 (And.intro ht8 (And.intro hx (show w.heap.size ≤ w4.heap.size by omega)))))))))))
            clear hp4 hln hmem hk4 htp htm h0 hW4 hsz hkB4 hrp ht0 ht8 hpc hx f0 f1 f2 ff hz4
            go_wp2_with fail
            refine (from_any (x := x) (t := t) H4.out.1 (by have := H.out.2.2.2.2.1; have := H.out.2.2.1; omega) H4.out.2.2.2.2.2.2.2.2.2.1 H4.out.2.2.2.2.1 H4.out.2.2.2.2.2.2.2.1 H4.out.2.2.2.2.2.2.2.2.1 H4.out.2.2.2.2.2.2.2.2.2.2 (fun s q u hs hm => H.out.2.2.2.2.2 p x t s q u H4.out.2.2.2.2.2.2.2.2.2.1 hs hm)).mono ?_
            rintro e w5 (⟨k, rfl, hbad, hk5⟩ | ⟨rfl, s, ts5, pend5, g5, cap5, hs5, hW5, hG5, hk5⟩)
            · have H5 := Lib.hid (And.intro hbad hk5)
              clear hbad hk5
              go_wp2_with fail
              go_ret2
              refine .inr ⟨p, t, k, rfl, H4.out.2.2.2.2.2.2.1, ⟨x, H4.out.2.2.2.2.2.2.2.2.2.1, ?_⟩, ⟨ts2, pend, pend1, x, HLR.out, H4.out.2.2.1, H4.out.2.2.2.1, HLE.out, H4.out.2.2.2.2.1, H4.out.2.2.2.2.2.2.2.2.2.1, H5.out.1⟩, kp_fresh HB2.out.2.2 ((H4.out.2.1.trans' H5.out.2).mono fun q _ e => .inr e)⟩
              rcases H5.out.1 with e | ⟨s, q, u, e1, e2, e3, -⟩
              · exact .inl e
              · refine .inr ⟨s, q, u, e1, e2, e3.imp (fun e => e) fun ⟨e4, e5, e6⟩ => ⟨e4, e5, e6.imp (fun e => e) fun ⟨u', q', e7, e8, e9, e10⟩ => ⟨u', q', e7, e8, e9, ?_⟩⟩⟩
                rcases e10 with e | e
                · exact (HB2.out.2.1.sound q' u' e e9).1
                · rw [e7] at e
                  exact .step H4.out.2.2.2.2.2.2.1 H4.out.2.2.2.2.2.2.2.2.2.1 e1 e
            · have H5 := Lib.hid (And.intro hs5 (And.intro hW5 (And.intro hG5 hk5)))
              clear hs5 hW5 hG5 hk5
              go_wp2_with fail
              go_roundg (2 * um ts5 + pend5.length)
              case measure => have h1 := H5.out.2.2.1.sum; have h2 := H5.out.2.2.1.less; have h3 := H4.out.2.2.2.1; omega
              case rel => exact ⟨ts5, pend5, _, _, rfl, H5.out.2.1, HB2.out.2.1.next H4.out.2.2.1 H4.out.2.2.2.2.1 H4.out.2.2.2.2.2.1 H4.out.2.2.2.2.2.2.2.2.2.1 H5.out.1 H5.out.2.2.1 (vsteps_pos H5.out.1 H4.out.2.2.2.2.2.2.2.1), kp_fresh HB2.out.2.2 ((H4.out.2.1.trans' H5.out.2.2.2).mono fun q _ e => .inr e), .step HLR.out H4.out.2.2.1 H4.out.2.2.2.1 HLE.out H4.out.2.2.2.2.1 H4.out.2.2.2.2.2.2.2.2.2.1 H5.out.1 H5.out.2.2.1⟩
theorem walked_any {F : Nat → Prop} {w : World} {code : List In4} {po : Option Addr} {cc : Nat} (hco : CodeAt F w code (.slice po code.length cc)) (hF : ∀ q, F q → q < w.heap.size) (h1 : 1 ≤ code.length) (h2 : code.length ≤ 800000) (hlab : LabOk code) :
    Calls Tryd.prog 26 #[.slice po code.length cc] w (WalkedPost w code) :=
  (walked_run hco hF h1 h2 hlab).mono fun _ _ h => h.imp (fun ⟨tg, tc, ts, a, b, c, d, _, f⟩ => ⟨tg, tc, ts, a, b, c, d, f⟩) (fun ⟨p, t, k, a, b, c, _, e⟩ => ⟨p, t, k, a, b, c, e⟩)
end Go.Proofs.YtpdepmkojbpklaaDoor
