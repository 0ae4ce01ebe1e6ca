/- The document's own heap of binaries: Keep and Drop. -/
import Derived.Test.YtlnckpjpoaokjaaRefGet
namespace Go.Proofs.Ytlnckpjpoaokjaa
open Go.RowKit
section
variable {F : Nat → Prop} {w w3 : World} {b : Nat} {a : Bn} {ss fs : Value} {ps : List (Value × Value × Value)} {N : Nat}

theorem xset_count {i : Nat} {s s' : Sl} (h : XRep F w b a ss fs ps) (hs : a.slots[i]? = some s) {g cap : Nat} (hv : ss = .slice (some ⟨g, 0, none⟩) a.slots.length cap) (hb : s'.bs = s.bs) (hg : s'.given = s.given) :
    ∃ v qs, XRep F (w.setCell ⟨g, i * 3 + 1, none⟩ (.int .i64 s'.count)) b { a with slots := a.slots.set i s' } ss fs qs ∧ Kp F w (w.setCell ⟨g, i * 3 + 1, none⟩ (.int .i64 s'.count)) ∧ qs[i]? = some (.int .i64 s'.given, .int .i64 s'.count, v) := by
  obtain ⟨g0, c0, v, hv0, hp, hby, _⟩ := h.slot hs
  have hpl := (List.getElem?_eq_some_iff.1 hp).1
  have h1 := h.setSlot (s' := s') hs hv hp (i * 3 + 1) (.int .i64 s'.count) v (by rw [(t3_set ps i _ hp _).2.1, hg]) (by rw [hb]; exact hby)
  exact ⟨v, _, h1.1, h1.2, List.getElem?_set_self hpl⟩

set_option maxHeartbeats 400000 in
theorem xkeep_ok (h : XRep F w b a ss fs ps) (hL : a.slots.length ≤ 4096) {n : Int} {i : Nat} {s : Sl} (hf : FOk a n i s) (hnM : n ≤ 9223372036854775807) (hg : s.gen ≤ 1000000000000000) (hc : s.count ≤ 1000000000000000) :
    Calls Try.prog 15 #[.pointer (some ⟨b, 0, none⟩), .int .i64 n] w fun e w' => e = .returned (.pointer none) ∧ XGo F w b { a with slots := a.slots.set i ⟨s.bs, s.count + 1, s.gen⟩ } w' := by
  go_enter Try.func15, Try.ntmps15
  go_wp2_with fail
  refine (xfind_ok h hL hf hnM hg).mono ?_
  rintro e w1 ⟨rfl, hk1⟩
  have h1 := h.kp hk1 (fun _ _ e => e)
  obtain ⟨_, _, c2, _, f0⟩ := h1.cells
  obtain ⟨g, cap, v, hv, _, hby, d0, d1, d2, fz, _, _⟩ := h1.slot hf.slot
  have hil := (List.getElem?_eq_some_iff.1 hf.slot).1
  have hx := xset_count (s' := ⟨s.bs, s.count + 1, s.gen⟩) h1 hf.slot hv rfl (by rw [given_pos hf.held]; exact given_pos (s := ⟨s.bs, s.count + 1, s.gen⟩) (Nat.succ_pos _))
  obtain ⟨L, hLe, hL1, hL2⟩ : ∃ L, a.slots.length = L ∧ L ≤ 4096 ∧ i < L := ⟨_, rfl, hL, hil⟩
  obtain ⟨q, hq, hq2⟩ : ∃ q, s.count = q ∧ q ≤ 1000000000000000 := ⟨_, rfl, hc⟩
  rw [hv, hLe] at c2
  rw [hq] at d1
  have H1 := Lib.hid (And.intro hk1 (And.intro hx hq))
  clear h h1 hL hf hLe hv hil hk1 hby hq d0 d2 hg hc hx
  go_wp2_with fail
  go_ret
  refine ⟨rfl, XGo.from H1.out.1 ?_⟩
  obtain ⟨v, qs, hx1, hx2, _⟩ := H1.out.2.1
  simp only [H1.out.2.2] at hx1 hx2 ⊢
  exact ⟨hx2, F, New.same F w1, _, _, _, hx1⟩

set_option maxHeartbeats 400000 in
theorem xdrop_more (h : XRep F w b a ss fs ps) (hL : a.slots.length ≤ 4096) {n : Int} {i c : Nat} {s : Sl} (hf : FOk a n i s) (hnM : n ≤ 9223372036854775807) (hg : s.gen ≤ 1000000000000000) (hc : s.count = c + 1) (hc0 : 0 < c) (hcM : c ≤ 1000000000000000) :
    Calls Try.prog 17 #[.pointer (some ⟨b, 0, none⟩), .int .i64 n] w fun e w' => e = .returned (.pointer none) ∧ XGo F w b { a with slots := a.slots.set i ⟨s.bs, c, s.gen⟩ } w' := by
  go_enter Try.func17, Try.ntmps17
  go_wp2_with fail
  refine (xfind_ok h hL hf hnM hg).mono ?_
  rintro e w1 ⟨rfl, hk1⟩
  have h1 := h.kp hk1 (fun _ _ e => e)
  obtain ⟨_, _, c2, _, f0⟩ := h1.cells
  obtain ⟨g, cap, v, hv, _, hby, d0, d1, d2, fz, _, hgb⟩ := h1.slot hf.slot
  have hil := (List.getElem?_eq_some_iff.1 hf.slot).1
  have hx := xset_count (s' := ⟨s.bs, c, s.gen⟩) h1 hf.slot hv rfl (by rw [given_pos hf.held]; exact given_pos (s := ⟨s.bs, c, s.gen⟩) hc0)
  obtain ⟨L, hLe, hL1, hL2⟩ : ∃ L, a.slots.length = L ∧ L ≤ 4096 ∧ i < L := ⟨_, rfl, hL, hil⟩
  rw [hv, hLe] at c2
  rw [hc] at d1
  have d1' : w1.cell? ⟨g, i * 3 + 1, none⟩ = some (.int .i64 ((c : Int) + 1)) := d1
  have e1 : (w1.setCell ⟨g, i * 3 + 1, none⟩ (.int .i64 c)).cell? ⟨b, 2, none⟩ = some (.slice (some ⟨g, 0, none⟩) L cap) := by
    rw [World.cell?_setCell_other _ _ _ _ (fun e => hgb (congrArg Addr.block e))]; exact c2
  have k1 : ((c : Int) == 0) = false := by simp; omega
  have H1 := Lib.hid (And.intro hk1 hx)
  clear h h1 hL hf hLe hv hil hk1 hby d0 d1 d2 hg hc hx
  go_wp2_with fail
  go_ret
  refine ⟨rfl, XGo.from H1.out.1 ?_⟩
  obtain ⟨v, qs, hx1, hx2, _⟩ := H1.out.2
  exact ⟨hx2, F, New.same F w1, _, _, _, hx1⟩

/-- one number in front of a row, by an append of the row to a slice of its own -/
theorem run_front (w : World) (i : Nat) {fs : Value} {l : List Nat} (hf : w.ownsRow 0 3 1 fs l.length (nats l)) (hl : l.length ≤ 4096) :
    ∃ v w', (Builtin.append_ #[34, 34] 34 #[.slice (some ⟨w.heap.size, 0, none⟩) 1 1, fs]).run Try.prog (w.alloc (.cells #[Value.int .i64 i] 3)) = .ok v w' ∧
      w'.ownsRow 0 3 1 v (i :: l).length (nats (i :: l)) ∧ Kp (fun _ => False) w w' ∧ ∀ g, v.ownBlock = some g → w.heap.size ≤ g ∧ g < w'.heap.size := by
  obtain ⟨i0, hi, hz0, hz1, hz2⟩ := info_parts Try.infoInt
  have hnew := heap_alloc_new w (.cells #[Value.int .i64 i] 3)
  have hone : (w.alloc (.cells #[Value.int .i64 i] 3)).ownsRow 0 3 1 (.slice (some ⟨w.heap.size, 0, none⟩) 1 1) 1 [Value.int .i64 i] :=
    ⟨rfl, .inr ⟨w.heap.size, 1, _, rfl, Nat.zero_le _, hnew, Nat.le_refl _, by unfold maxLen; omega, rfl, rfl⟩⟩
  have hk : Kp (fun _ => False) w (w.alloc (.cells #[Value.int .i64 i] 3)) := (Kp.refl _ w).alloc _
  by_cases h0 : l = []
  · subst h0
    obtain ⟨po, cap, rfl⟩ := slice_form hf
    refine ⟨.slice (some ⟨w.heap.size, 0, none⟩) 1 1, _, ?_, hone, hk, fun g hg => ?_⟩
    · cases po <;> simp [Builtin.append_, run_underlying Try.underlying34, sizeOf, typeInfo, hi, Builtin.lenOf, Builtin.firstCells, loadCells, loadCellsFrom, storeCells]
    · simp [Value.ownBlock] at hg
      subst hg
      exact ⟨Nat.le_refl _, (Array.getElem?_eq_some_iff.1 hnew).1⟩
  · have hpos : 0 < l.length := List.length_pos_iff.2 h0
    obtain ⟨g, cap, rfl, _, hgl⟩ := hf.form hpos
    have hcells : ∀ j u, (nats l)[j]? = some u → (w.alloc (.cells #[Value.int .i64 i] 3)).cell? ((⟨g, 0, none⟩ : Addr).add j) = some u := fun j u hu => by
      have h1 := hf.cells (g := g) rfl j u hu
      rw [← h1]
      have := hk.cell (p := (⟨g, 0, none⟩ : Addr).add j) (by rw [show ((⟨g, 0, none⟩ : Addr).add j).block = g by unfold Addr.add; split <;> rfl]; exact hgl) (fun e => e)
      exact this
    obtain ⟨g', cap', w', hr, h1, h2, h3, h4⟩ := run_append_lies (P := Try.prog) (w.alloc (.cells #[Value.int .i64 i] 3)) 34 34 0 3 i0 (.int .i64 0) 1 8 Try.underlying34 hi hz0 hz1 hz2 rfl (by omega)
      (.slice (some ⟨w.heap.size, 0, none⟩) 1 1) 1 [Value.int .i64 i] hone ⟨g, 0, none⟩ l.length cap (nats l) (by rw [nats_len]; omega) hcells (fun u hu => by unfold nats at hu; obtain ⟨x, _, rfl⟩ := List.mem_map.1 hu; rfl) hpos (by unfold maxLen; omega) (by omega) (Nat.zero_le _) (w.heap.size + 1) (by simp)
    have hk2 : Kp (fun _ => False) w w' := hk.grown h2 (fun q hq => .inr (by simp [Value.ownBlock] at hq; omega))
    refine ⟨_, w', hr, ?_, hk2, fun q hq => ?_⟩
    · have e : 1 + l.length = (i :: l).length := by simp; omega
      rw [← e]
      exact h1
    · simp [Value.ownBlock] at hq
      subst hq
      refine ⟨?_, h4⟩
      rcases h3 with e | e
      · simp [Value.ownBlock] at e; omega
      · omega

set_option maxRecDepth 100000 in
set_option maxHeartbeats 2000000 in
theorem xdrop_last (h : XRep F w b a ss fs ps) (hL : a.slots.length ≤ 4096) (hfL : a.free.length ≤ 4096) {n : Int} {i : Nat} {s : Sl} (hf : FOk a n i s) (hnM : n ≤ 9223372036854775807) (hg : s.gen ≤ 1000000000000000) (hc : s.count = 1) (u : Nat) :
    Calls Try.prog 17 #[.pointer (some ⟨b, 0, none⟩), .int .i64 n] w fun e w' => e = .returned (.pointer none) ∧ XGo F w b { a with used := u, slots := a.slots.set i ⟨[], 0, s.gen + 1⟩, free := a.free ++ [i] } w' := by
  go_enter Try.func17, Try.ntmps17
  go_wp2_with fail
  refine (xfind_ok h hL hf hnM hg).mono ?_
  rintro e w1 ⟨rfl, hk1⟩
  have h1 := h.kp hk1 (fun _ _ e => e)
  obtain ⟨_, _, c2, c3, f0⟩ := h1.cells
  obtain ⟨g, cap, v, hv, _, hby, d0, d1, d2, fz, _, hgb⟩ := h1.slot hf.slot
  obtain ⟨p, cc, rfl⟩ := hby.form' (m := s.bs.length) rfl
  have hil := (List.getElem?_eq_some_iff.1 hf.slot).1
  have hx := xset_count (s' := ⟨s.bs, 0, s.gen + 1⟩) h1 hf.slot hv rfl (by rw [given_pos hf.held]; rfl)
  obtain ⟨L, hLe, hL1, hL2⟩ : ∃ L, a.slots.length = L ∧ L ≤ 4096 ∧ i < L := ⟨_, rfl, hL, hil⟩
  have c2' := c2
  rw [hv, hLe] at c2'
  rw [hc] at d1
  have d1' : w1.cell? ⟨g, i * 3 + 1, none⟩ = some (.int .i64 1) := d1
  obtain ⟨wA, hwA⟩ : ∃ wA, w1.setCell ⟨g, i * 3 + 1, none⟩ (.int .i64 0) = wA := ⟨_, rfl⟩
  have e2 : wA.cell? ⟨b, 2, none⟩ = some (.slice (some ⟨g, 0, none⟩) L cap) := by
    rw [← hwA, World.cell?_setCell_other _ _ _ _ (fun e => hgb (congrArg Addr.block e))]; exact c2'
  have e3 : wA.cell? ⟨b, 3, none⟩ = some fs := by
    rw [← hwA, World.cell?_setCell_other _ _ _ _ (fun e => hgb (congrArg Addr.block e))]; exact c3
  have e1 : wA.cell? ⟨g, i * 3 + 1, none⟩ = some (.int .i64 0) := by rw [← hwA]; exact World.cell?_setCell_same _ _ _ d1'
  have eB : wA.cell? ⟨g, i * 3 + 2, none⟩ = some (.slice p s.bs.length cc) := by
    rw [← hwA, World.cell?_setCell_other _ _ _ _ (fun e => by have e' := congrArg Addr.off e; simp only at e'; omega)]; exact d2
  have fA : ∀ j, wA.frozen? ⟨g, j, none⟩ = false := fun j => by rw [← hwA, World.frozen?_setCell]; exact fz j
  have fAb : ∀ j, wA.frozen? ⟨b, j, none⟩ = false := fun j => by rw [← hwA, World.frozen?_setCell]; exact f0 j
  obtain ⟨wB, hwB⟩ : ∃ wB, wA.setCell ⟨g, i * 3 + 2, none⟩ (.slice none 0 0) = wB := ⟨_, rfl⟩
  have e3' : wB.cell? ⟨b, 3, none⟩ = some fs := by
    rw [← hwB, World.cell?_setCell_other _ _ _ _ (fun e => hgb (congrArg Addr.block e))]; exact e3
  have fBb : ∀ j, wB.frozen? ⟨b, j, none⟩ = false := fun j => by rw [← hwB, World.frozen?_setCell]; exact fAb j
  -- the heap behind the two stores
  obtain ⟨va, qs, hxA, hkA, hpA⟩ := hx
  have hxA' : XRep F wA b { a with slots := a.slots.set i ⟨s.bs, 0, s.gen + 1⟩ } ss fs qs := by rw [← hwA]; exact hxA
  have hkA' : Kp F w1 wA := by rw [← hwA]; exact hkA
  have hxB := hxA'.setSlot (s := ⟨s.bs, 0, s.gen + 1⟩) (s' := ⟨[], 0, s.gen + 1⟩) (by simp [hil]) hv hpA (i * 3 + 2) (.slice none 0 0) (.slice none 0 0) ((t3_set qs i _ hpA _).2.2) (bytesAt_nil _ _)
  rw [hwB] at hxB
  have hxB1 := hxB.1
  simp only [List.set_set] at hxB1
  have hfl : ({ a with slots := a.slots.set i ⟨[], 0, s.gen + 1⟩ } : Bn).free.reverse.length = a.free.length := by simp
  obtain ⟨vf, w3, hr, ho, hk3, hF⟩ := run_front wB i (fs := fs) (l := a.free.reverse) (by rw [List.length_reverse]; exact hxB1.rf) (by rw [List.length_reverse]; exact hfL)
  have hbl : b < wB.heap.size := hxB1.lt b hxB1.inF
  have e4 : w3.cell? ⟨b, 3, none⟩ = some fs := (hk3.cell (p := ⟨b, 3, none⟩) hbl (fun e => e)).trans e3'
  have f3 : ∀ j, w3.frozen? ⟨b, j, none⟩ = false := fun j => (hk3.frozen (p := ⟨b, j, none⟩) hbl (fun e => e)).trans (fBb j)
  have hgo := hxB1.turnFree (l := a.free ++ [i]) (v := vf) hk3 (by rw [List.reverse_append, List.length_append, List.length_singleton]; rw [List.length_cons, List.length_reverse] at ho; exact ho) hF
  have hko := hkA'.trans' hxB.2
  obtain ⟨pf, nf, cf, hvf⟩ : ∃ pf nf cf, vf = .slice pf nf cf := by obtain ⟨pf, cf, e⟩ := slice_form ho; exact ⟨pf, _, cf, e⟩
  subst hvf
  have H1 := Lib.hid (And.intro hk1 (And.intro hgo hko))
  have Hr := Lib.hid hr
  have k0 : ((0 : Int) == 0) = true := rfl
  clear h h1 hL hfL hf hLe hv hil hk1 hby hc d0 d1 d2 hg hxA hxA' hkA hkA' hpA hxB hxB1 hfl ho hk3 hF hgo hko hr c2 c3
  go_wp2_with (at_builtin; refine wpList_run rfl _ _ 34 rfl (.slice (some ⟨wB.heap.size, 0, none⟩) 1 1) fs rfl rfl _ w3 Hr.out ?_)
  go_ret
  refine ⟨rfl, XGo.from H1.out.1 ?_⟩
  obtain ⟨hk, F', hn, hB⟩ := H1.out.2.1
  refine ⟨H1.out.2.2.trans' hk, F', fun q hq => (hn q hq).elim .inl (fun e => .inr (Nat.le_trans H1.out.2.2.size e)), ?_⟩
  obtain ⟨x, y, z, hB⟩ := hB
  exact ⟨x, y, z, hB.inF, hB.lt, hB.hb, hB.rs, hB.rf, hB.fS, hB.fF, hB.el⟩
end
end Go.Proofs.Ytlnckpjpoaokjaa
